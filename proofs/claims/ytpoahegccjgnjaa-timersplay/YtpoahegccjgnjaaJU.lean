/- Contracts, over the turned program: undo.filled, undo.Mark, undo.Marked, undo.Image, undo.Place, undo.Need. Conditions: those that each theorem states. A map with numbers for keys, in a block of its own: what it holds, a look, a store; for every program whose map has such keys. Conditions: those that each theorem states. Contracts, over the turned program: undo.mayBe and undo.Write at any list of numbers. Conditions: those that each theorem states. Contracts, over the turned program: undo.Write at any list of numbers. Conditions: those that each theorem states. Contracts, over the turned program: undo.Read of any bytes. Conditions: those that each theorem states. Contract, over the turned program: the first look of every statement on undo. Conditions: those that each theorem states. Plain facts on directories: what is written is read again; where it is read, it was read well. No conditions but those that each states. Contracts, over the turned program: undo.Cut, the document's Cut and Join, and sameTexts. Conditions: those that each theorem states. Contracts, over the turned program: the document's Join of sectors. Conditions: those that each theorem states. -/
import Derived.Test.YtpoahegccjgnjaaJB
import Derived.Laws.CopyRow
namespace Go.Proofs.Ytpoahegccjgnjaa
open Go.RowKit
open Go.ChangeMaps (setBlock)
set_option linter.unusedVariables false

theorem whole_cells (l : List UInt8) : ((bcs noughts).toArray.toList.take 0 ++ (bcs l).take 64 ++ (bcs noughts).toArray.toList.drop (0 + ((bcs l).take 64).length)).toArray = (bcs (whole l)).toArray := by
  have hl : ((bcs l).take 64).length = min 64 l.length := by rw [List.length_take, bcs_len]
  have e : whole l = l.take 64 ++ noughts.drop (min 64 l.length) := by
    unfold whole
    rw [List.take_append]
    congr 1
    unfold noughts
    rw [List.take_replicate, List.drop_replicate]
    congr 1
    omega
  rw [e, bcs_append, hl]
  simp [bcs, List.map_drop, List.map_take]
theorem arr_cells (w : World) (x : List UInt8) (t : TypeId) (j : Nat) (hj : j < x.length) : (w.alloc (.cells (bcs x).toArray t)).cell? ((⟨w.heap.size, 0, none⟩ : Addr).add j) = some (.int .u8 (x[j].toNat : Int)) := by
  have e : (⟨w.heap.size, 0, none⟩ : Addr).add j = ⟨w.heap.size, j, none⟩ := by unfold Addr.add; split <;> simp_all
  rw [e, cell_of_row _ _ _ _ _ _ (heap_alloc_last w _)]
  simpa using bcs_at x j hj
/-- Mark's bytes. -/
def markL (b : Bool) : List UInt8 := whole (if b then [1] else [])
theorem own_one (w : World) (c : UInt8) (z : Int) (hz : z = (c.toNat : Int)) : Own 5 (w.alloc (.cells #[.int .u8 z] 5)) w.heap.size (.slice (some ⟨w.heap.size, 0, none⟩) 1 1) [c] := by
  subst hz
  exact ⟨by simp [bcs], .inr ⟨w.heap.size, 1, _, rfl, Nat.le_refl _, heap_alloc_last w _, by simp, by unfold maxLen; omega, by simp, by simp [bcs]⟩⟩
/-- Whether bytes say yes. -/
def saysB (s : ByteArray) : Bool := strN s != 0
end Go.Proofs.Ytpoahegccjgnjaa

namespace Go.Proofs.Ytpoahegccjgnjaa
open Go.RowKit
open Go.ChangeMaps (setBlock)
set_option linter.unusedVariables false

/-- The entries of a map: just those of c, no key twice, each with a stamp of its own. -/
structure Mi (c : Int → Option Value) (es : List MapEntry) (cl : Nat) : Prop where
  e1 : ∀ e ∈ es, ∃ z : Int, e.key = .int .i64 z ∧ c z = some e.val
  e2 : ∀ z x, c z = some x → ∃ e ∈ es, e.key = .int .i64 z
  e3 : es.Pairwise (fun a b => a.key ≠ b.key)
  e4 : ∀ e ∈ es, e.born < cl
  e5 : (es.map (·.born)).Nodup
theorem Mi.nil (cl : Nat) : Mi (fun _ => none) [] cl := ⟨by simp, by simp, List.Pairwise.nil, by simp, by simp⟩
theorem Mi.keys {c : Int → Option Value} {es : List MapEntry} {cl : Nat} (h : Mi c es cl) : ∀ e ∈ es, ∃ z : Int, e.key = .int .i64 z := fun e he => by
  obtain ⟨z, hk, _⟩ := h.e1 e he
  exact ⟨z, hk⟩
theorem Mi.find {c : Int → Option Value} {es : List MapEntry} {cl : Nat} (h : Mi c es cl) (z : Int) :
    (c z = none ∧ Instr.findNow (.int .i64) (.int .i64 z) es 0 = some none ∧ ∀ e ∈ es, e.key ≠ .int .i64 z) ∨
    ∃ j e, c z = some e.val ∧ es[j]? = some e ∧ e.key = .int .i64 z ∧ Instr.findNow (.int .i64) (.int .i64 z) es 0 = some (some (j, e.val)) := by
  rcases find_spec z es 0 h.keys with ⟨h1, h2⟩ | ⟨j, e, h1, h2, h3⟩
  · refine .inl ⟨?_, h1, h2⟩
    cases hu : c z with
    | none => rfl
    | some x =>
      obtain ⟨e, he, hk⟩ := h.e2 z x hu
      exact absurd hk (h2 e he)
  · obtain ⟨z', hk, hv⟩ := h.e1 e (List.mem_of_getElem? h1)
    have : z' = z := by
      rw [h2] at hk
      exact ((Value.int.inj hk).2).symm
    subst this
    exact .inr ⟨j, e, hv, h1, h2, by rw [h3]; simp⟩
/-- One entry more, or another value. -/
def putI (c : Int → Option Value) (z : Int) (x : Value) : Int → Option Value := fun k => if k = z then some x else c k
theorem run_lookI {w : World} {m : Nat} {es : Array MapEntry} {cl : Nat} {c : Int → Option Value} {t e : TypeId} (ht : Try.prog.underlying t = some (.map 3 e)) {zv : Value} (hz : ∀ W, (zeroValue e).run Try.prog W = .ok zv W)
    (hm : w.heap[m]? = some (.map es cl)) (h : Mi c es.toList cl) (z : Int) (ok : Bool) :
    (Instr.lookup t (.map (some m)) (.int .i64 z) ok).run Try.prog w = .ok (if ok then .tuple #[(c z).getD zv, .bool (c z).isSome] else (c z).getD zv) w := by
  rcases h.find z with ⟨h1, h2, _⟩ | ⟨j, e, h1, _, _, h2⟩
  · simp only [Instr.lookup, Sem.run_bind, run_underlying ht, Result.andThen_ok, MapKept.run_getObj_map hm, Sem.run_pure, run_check, Instr.findKey, run_underlying Try.underlying3, h2, hz, h1, Option.getD_none, Option.isSome_none]
  · simp only [Instr.lookup, Sem.run_bind, run_underlying ht, Result.andThen_ok, MapKept.run_getObj_map hm, Sem.run_pure, run_check, Instr.findKey, run_underlying Try.underlying3, h2, h1, Option.getD_some, Option.isSome_some]
theorem run_putI {w : World} {m : Nat} {es : Array MapEntry} {cl : Nat} {c : Int → Option Value} {t e : TypeId} (ht : Try.prog.underlying t = some (.map 3 e)) (hm : w.heap[m]? = some (.map es cl)) (h : Mi c es.toList cl) (z : Int) (x : Value) :
    ∃ es' cl', (Instr.mapUpdate t (.map (some m)) (.int .i64 z) x).run Try.prog w = .ok () (setBlock w m (.map es' cl')) ∧ Mi (putI c z x) es'.toList cl' := by
  rcases h.find z with ⟨h1, h2, h3⟩ | ⟨j, e, h1, h3, h4, h2⟩
  · refine ⟨es.push { key := .int .i64 z, val := x, born := cl }, cl + 1, ?_, ?_⟩
    · simp only [Instr.mapUpdate, Sem.run_bind, run_underlying ht, Result.andThen_ok, MapKept.run_getObj_map hm, Sem.run_pure, run_check, Instr.findKey, run_underlying Try.underlying3, h2, MapKept.run_setObj_map _ hm]
      rfl
    · have ne : ∀ k y, c k = some y → k ≠ z := fun k y hk e => by subst e; rw [h1] at hk; cases hk
      rw [Array.toList_push]
      refine ⟨fun e he => ?_, fun k y hk => ?_, ?_, fun e he => ?_, ?_⟩
      · rcases List.mem_append.1 he with he | he
        · obtain ⟨k, b, a⟩ := h.e1 e he
          exact ⟨k, b, by simp [putI, ne k _ a, a]⟩
        · have : e = { key := .int .i64 z, val := x, born := cl } := by simpa using he
          subst this
          exact ⟨z, rfl, by simp [putI]⟩
      · by_cases e : k = z
        · subst e
          exact ⟨{ key := .int .i64 k, val := x, born := cl }, List.mem_append.2 (.inr (by simp)), rfl⟩
        · simp only [putI, e, if_false] at hk
          obtain ⟨e', he', hk'⟩ := h.e2 k y hk
          exact ⟨e', List.mem_append.2 (.inl he'), hk'⟩
      · rw [List.pairwise_append]
        refine ⟨h.e3, List.pairwise_singleton _ _, fun a ha b hb => ?_⟩
        have : b = { key := .int .i64 z, val := x, born := cl } := by simpa using hb
        subst this
        exact h3 a ha
      · rcases List.mem_append.1 he with he | he
        · have := h.e4 e he
          omega
        · have : e = { key := .int .i64 z, val := x, born := cl } := by simpa using he
          subst this
          exact Nat.lt_succ_self _
      · rw [List.map_append, List.nodup_append]
        refine ⟨h.e5, by simp, fun a ha b hb => ?_⟩
        obtain ⟨e, he, rfl⟩ := List.mem_map.1 ha
        have := h.e4 e he
        have : b = cl := by simpa using hb
        omega
  · have hj : j < es.size := by have := (List.getElem?_eq_some_iff.1 h3).1; simpa using this
    have hej : es[j]? = some e := by rw [← Array.getElem?_toList]; exact h3
    refine ⟨es.modify j fun e => { e with key := .int .i64 z, val := x }, cl, ?_, ?_⟩
    · have hs : (Instr.keyThatStays (.int .i64 z) (.int .i64 z)).run Try.prog w = .ok (.int .i64 z) w := by
        unfold Instr.keyThatStays
        rw [if_pos (by simp [Instr.sameBits])]
        rfl
      simp only [Instr.mapUpdate, Sem.run_bind, run_underlying ht, Result.andThen_ok, MapKept.run_getObj_map hm, Sem.run_pure, run_check, Instr.findKey, run_underlying Try.underlying3, h2, hej, Option.map_some, Option.getD_some, h4, hs, MapKept.run_setObj_map _ hm]
      rfl
    · have hl : (es.modify j fun e => { e with key := .int .i64 z, val := x }).toList = es.toList.modify j fun e => { e with key := .int .i64 z, val := x } := by simp
      rw [hl]
      have hget : ∀ (k : Nat) (e' : MapEntry), (es.toList.modify j fun e => { e with key := .int .i64 z, val := x })[k]? = some e' →
          (k = j ∧ e' = { e with key := .int .i64 z, val := x }) ∨ (k ≠ j ∧ es.toList[k]? = some e') := by
        intro k e' hk
        rw [List.getElem?_modify] at hk
        by_cases ek : j = k
        · subst ek
          rw [h3] at hk
          simp at hk
          exact .inl ⟨rfl, hk.symm⟩
        · simp only [ek, if_false] at hk
          exact .inr ⟨fun e => ek e.symm, by simpa using hk⟩
      have hkeys : (es.toList.modify j fun e => { e with key := .int .i64 z, val := x }).map (·.key) = es.toList.map (·.key) := by
        apply List.ext_getElem?
        intro k
        rw [List.getElem?_map, List.getElem?_map, List.getElem?_modify]
        by_cases ek : j = k
        · subst ek
          rw [h3]
          simp [h4]
        · simp [ek]
      have hborn : (es.toList.modify j fun e => { e with key := .int .i64 z, val := x }).map (·.born) = es.toList.map (·.born) := by
        apply List.ext_getElem?
        intro k
        rw [List.getElem?_map, List.getElem?_map, List.getElem?_modify]
        by_cases ek : j = k
        · subst ek
          rw [h3]
          simp
        · simp [ek]
      have huniq : ∀ k e', es.toList[k]? = some e' → e'.key = .int .i64 z → k = j := fun k e' hk hkey => by
        have hp := List.pairwise_iff_getElem.1 h.e3
        have hk' := (List.getElem?_eq_some_iff.1 hk)
        have hj' := (List.getElem?_eq_some_iff.1 h3)
        obtain ⟨lk, vk⟩ := hk'
        obtain ⟨lj, vj⟩ := hj'
        rcases Nat.lt_trichotomy k j with hlt | heq | hgt
        · exact absurd (by rw [vk, vj, hkey, h4]) (hp k j lk lj hlt)
        · exact heq
        · exact absurd (by rw [vk, vj, hkey, h4]) (hp j k lj lk hgt)
      refine ⟨fun e' he' => ?_, fun k y' hk => ?_, ?_, fun e' he' => ?_, by rw [hborn]; exact h.e5⟩
      · obtain ⟨k, hk⟩ := List.getElem?_of_mem he'
        rcases hget k e' hk with ⟨rfl, rfl⟩ | ⟨hne, hk'⟩
        · exact ⟨z, rfl, by simp [putI]⟩
        · obtain ⟨k', b, a⟩ := h.e1 e' (List.mem_of_getElem? hk')
          have : k' ≠ z := fun e0 => hne (huniq k e' hk' (by rw [b, e0]))
          exact ⟨k', b, by simp [putI, this, a]⟩
      · have : ∃ y0, c k = some y0 := by
          by_cases e0 : k = z
          · subst e0; exact ⟨_, h1⟩
          · simp only [putI, e0, if_false] at hk; exact ⟨y', hk⟩
        obtain ⟨y0, hy0⟩ := this
        obtain ⟨e', he', hk'⟩ := h.e2 k y0 hy0
        have hmem : (Value.int .i64 k) ∈ (es.toList.modify j fun e => { e with key := .int .i64 z, val := x }).map (·.key) := by
          rw [hkeys, ← hk']
          exact List.mem_map_of_mem he'
        obtain ⟨e2, he2, hk2⟩ := List.mem_map.1 hmem
        exact ⟨e2, he2, hk2⟩
      · have := List.pairwise_map (f := fun e : MapEntry => e.key) (R := (· ≠ ·)) (l := es.toList.modify j fun e => { e with key := .int .i64 z, val := x })
        rw [← this, hkeys, List.pairwise_map]
        exact h.e3
      · have hmem : e'.born ∈ (es.toList.modify j fun e => { e with key := .int .i64 z, val := x }).map (·.born) := List.mem_map_of_mem he'
        rw [hborn] at hmem
        obtain ⟨e2, he2, hb2⟩ := List.mem_map.1 hmem
        rw [← hb2]
        exact h.e4 e2 he2

end Go.Proofs.Ytpoahegccjgnjaa

namespace Go.Proofs.Ytpoahegccjgnjaa
open Go.RowKit
open Go.ChangeMaps (setBlock)
set_option linter.unusedVariables false

/-- Numbers that 64 bits hold. -/
def i64s (l : List Int) : Prop := ∀ z ∈ l, -9223372036854775808 ≤ z ∧ z < 9223372036854775808
/-- May they be a directory's? -/
def okP (l : List Int) : Bool := decide ((∀ z ∈ l, 0 ≤ z ∧ z < 65536) ∧ l.Nodup)
/-- What the map has counted behind the numbers l, which are unlike. -/
def cntF (l : List Int) : Int → Option Value := fun z => if z ∈ l then some (.int .i64 1) else none
theorem cnt_nil : (fun _ => none) = cntF [] := by funext z; simp [cntF]
theorem cnt_put (l : List Int) (z : Int) : putI (cntF l) z (.int .i64 1) = cntF (l ++ [z]) := by
  funext k
  unfold putI cntF
  by_cases h : k = z
  · subst h; simp
  · by_cases h2 : k ∈ l <;> simp [h, h2]
theorem zeroI (W : World) : (zeroValue 3).run Try.prog W = .ok (.int .i64 0) W := Try.zeroValue3 W
theorem u64_nat (p : Int) (h : -9223372036854775808 ≤ p ∧ p < 9223372036854775808) : ∃ U : Nat, IntKind.u64.wrap p = (U : Int) ∧ (U : Int) < 18446744073709551616 ∧ fitsB U 2 = decide (0 ≤ p ∧ p < 65536) ∧ (0 ≤ p → U = p.toNat) := by
  refine ⟨(p % 18446744073709551616).toNat, ?_, by omega, ?_, ?_⟩
  · rw [IntKind.wrap_u64]; omega
  · unfold fitsB
    rw [show 2 ^ (8 * wid 2) = 65536 from rfl, Bool.eq_iff_iff]
    simp only [decide_eq_true_eq]
    omega
  · intro h0; omega
theorem okP_snoc (l : List Int) (z : Int) : okP (l ++ [z]) = (okP l && (decide (0 ≤ z ∧ z < 65536) && !decide (z ∈ l))) := by
  unfold okP
  rw [Bool.eq_iff_iff]
  simp only [Bool.and_eq_true, decide_eq_true_eq, Bool.not_eq_true', decide_eq_false_iff_not, List.nodup_append, List.mem_append, List.mem_singleton]
  constructor
  · rintro ⟨h1, h2, _, h3⟩
    exact ⟨⟨fun x hx => h1 x (.inl hx), h2⟩, h1 z (.inr rfl), fun hm => h3 z hm z rfl rfl⟩
  · rintro ⟨⟨h1, h2⟩, h3, h4⟩
    refine ⟨fun x hx => ?_, h2, List.nodup_cons.2 ⟨by simp, List.nodup_nil⟩, fun a ha b hb => ?_⟩
    · rcases hx with hx | rfl
      · exact h1 x hx
      · exact h3
    · subst hb
      exact fun e => h4 (e ▸ ha)
theorem okP_take {l : List Int} (h : okP l = true) (k : Nat) : okP (l.take k) = true := by
  unfold okP at *
  simp only [decide_eq_true_eq] at *
  exact ⟨fun z hz => h.1 z (List.mem_of_mem_take hz), h.2.sublist (List.take_sublist k l)⟩
theorem okP_bad {l : List Int} {k : Nat} (hk : k < l.length) (h : okP (l.take k ++ [l[k]]) = false) : okP l = false := by
  cases he : okP l with
  | false => rfl
  | true =>
    have := okP_take he (k + 1)
    rw [List.take_succ_eq_append_getElem hk, h] at this
    cases this

end Go.Proofs.Ytpoahegccjgnjaa

namespace Go.Proofs.Ytpoahegccjgnjaa
open Go.RowKit
open Go.ChangeMaps (setBlock)
set_option linter.unusedVariables false

/-- Pages as bytes, a directory's bytes, the error, the sector that Write answers. -/
def pagesB (l : List Int) : List UInt8 := l.flatMap fun z => be z.toNat 2
def encP (l : List Int) : List UInt8 := be l.length 1 ++ pagesB l
def wE (l : List Int) : Int := if 31 < l.length then 3 else if okP l then 0 else 1
def wB (l : List Int) : List UInt8 := if wE l = 0 then whole (encP l) else []
theorem pagesB_len (l : List Int) : (pagesB l).length = 2 * l.length := by
  unfold pagesB
  rw [List.length_flatMap]
  simp [be_len]
  induction l with
  | nil => rfl
  | cons z l ih => simp; omega
theorem pagesB_snoc (l : List Int) (z : Int) : pagesB (l ++ [z]) = pagesB l ++ be z.toNat 2 := by simp [pagesB]
theorem pagesB_take (l : List Int) (k : Nat) (h : k < l.length) : pagesB (l.take (k + 1)) = pagesB (l.take k) ++ be l[k].toNat 2 := by
  rw [List.take_succ_eq_append_getElem h, pagesB_snoc]
theorem encP_len (l : List Int) : (encP l).length = 1 + 2 * l.length := by simp [encP, be_len, pagesB_len]
theorem okP_at {l : List Int} (h : okP l = true) (k : Nat) (hk : k < l.length) : ∃ q : Nat, l[k] = (q : Int) ∧ q < 65536 := by
  unfold okP at h
  simp only [decide_eq_true_eq] at h
  have := h.1 _ (List.getElem_mem hk)
  exact ⟨l[k].toNat, by omega, by omega⟩
/-- Own bytes that have grown: what was there ahead of them has not turned. -/
theorem Fr.kp {w0 w w' : World} {v v' : Value} {l : List UInt8} {e : TypeId} (h : Fr w v w' v') (ho : Own e w w0.heap.size v l) (hk : Kp none' w0 w) : Kp none' w0 w' :=
  hk.trans (Kp.ofGrown h.1 (S := fun k => v.ownBlock = some k) (fun k he _ => he)) (fun _ _ h => h) (fun k hk he => absurd hk (by have := (ho.lt k he).1; omega))

end Go.Proofs.Ytpoahegccjgnjaa

namespace Go.Proofs.Ytpoahegccjgnjaa
open Go.RowKit
open Go.ChangeMaps (setBlock)
set_option linter.unusedVariables false

/-- Numbers of two bytes each, read one behind the other, and the error behind them. -/
def rdN : Nat → ByteArray → Int → List Int
  | 0, _, _ => []
  | n + 1, s, e => (val (rawR s e 2).data.toList : Int) :: rdN n (rawS s e 2) (rawE s e 2)
def rdE : Nat → ByteArray → Int → Int
  | 0, _, e => e
  | n + 1, s, e => rdE n (rawS s e 2) (rawE s e 2)
def cnt (s : ByteArray) : Nat := val (rawR s 0 1).data.toList
/-- The pages that bytes name, whether they are a directory's, what Read answers. -/
def pgs (s : ByteArray) : List Int := rdN (cnt s) (rawS s 0 1) (rawE s 0 1)
def rOk (s : ByteArray) : Bool := decide (wE (pgs s) = 0 ∧ wB (pgs s) = s.data.toList)
def rL (s : ByteArray) : List Int := if rOk s then pgs s else []
def rE (s : ByteArray) : Int := if rOk s then 0 else 10
theorem val_raw (s : ByteArray) (e : Int) (k : Nat) : val (rawR s e k).data.toList < 256 ^ k := by
  have h1 := val_lt (rawR s e k).data.toList
  have h2 : (rawR s e k).data.toList.length ≤ k := by
    rw [Array.length_toList]
    have := rawR_size s e k
    show (rawR s e k).size ≤ k
    omega
  exact Nat.lt_of_lt_of_le h1 (Nat.pow_le_pow_right (by omega) h2)
theorem cnt_lt (s : ByteArray) : cnt s < 256 := val_raw s 0 1
theorem val2_lt (s : ByteArray) (e : Int) : val (rawR s e 2).data.toList < 65536 := val_raw s e 2
theorem rawS_size (s : ByteArray) (e k : Int) : (rawS s e k).size ≤ s.size := by
  unfold rawS
  split
  · exact Nat.le_refl _
  · rw [ByteArray.size_extract]; omega
theorem rdN_len : ∀ (n : Nat) (s : ByteArray) (e : Int), (rdN n s e).length = n
  | 0, _, _ => rfl
  | n + 1, s, e => by simp [rdN, rdN_len n]
theorem rdN_i64 : ∀ (n : Nat) (s : ByteArray) (e : Int), i64s (rdN n s e)
  | 0, _, _ => fun z hz => by simp [rdN] at hz
  | n + 1, s, e => fun z hz => by
    rcases List.mem_cons.1 hz with rfl | hz
    · have := val2_lt s e; omega
    · exact rdN_i64 n _ _ z hz
theorem pgs_i64 (s : ByteArray) : i64s (pgs s) := rdN_i64 _ _ _
theorem pgs_len (s : ByteArray) : (pgs s).length = cnt s := rdN_len _ _ _
theorem Ow.cellAt {α : Type} {f : α → Value} {e : TypeId} {w : World} {base g n cap : Nat} {l : List α} (h : Ow f e w base (.slice (some ⟨g, 0, none⟩) n cap) l) (j : Nat) (hj : j < l.length) : w.cell? ⟨g, j, none⟩ = some (f l[j]) ∧ w.frozen? ⟨g, j, none⟩ = false := by
  have hn : n = l.length := by
    rcases h.2 with ⟨h1, _⟩ | ⟨g', cap', cur, h1, _⟩
    · cases h1
    · cases h1; rfl
  subst hn
  refine ⟨?_, World.ownsRow.frozenAt (g := g) (cap := cap) h j⟩
  rw [World.ownsRow.cellAt (g := g) (cap := cap) h j (by omega)]
  simp [hj]
theorem Ow.mono {α : Type} {f : α → Value} {e : TypeId} {w : World} {base base' : Nat} {v : Value} {l : List α} (h : Ow f e w base v l) (hb : base' ≤ base) : Ow f e w base' v l := by
  refine ⟨h.1, ?_⟩
  rcases h.2 with hn | ⟨g, cap, cur, rfl, hb2, rest⟩
  · exact .inl hn
  · exact .inr ⟨g, cap, cur, rfl, by omega, rest⟩
/-- make([]int, n). -/
theorem make_ints (w : World) (n : Nat) (hn : n ≤ 1000000) : ∃ wa, (Instr.makeSlice 37 (.int .i64 n) (.int .i64 n)).run Try.prog w = .ok (.slice (some ⟨w.heap.size, 0, none⟩) n n) wa ∧ Ow (Value.int .i64) 3 wa w.heap.size (.slice (some ⟨w.heap.size, 0, none⟩) n n) (List.replicate n 0) ∧ Kp none' w wa := by
  obtain ⟨i0, hi, hz0, hz1, hz2⟩ := info_parts infoI
  obtain ⟨wa, hmk, hOa, hga⟩ := run_make_full (P := Try.prog) w w.heap.size 37 3 i0 _ 1 Try.underlying37 hi hz0 hz1 .i64 .i64 n (by rw [hz2]; omega) (by unfold maxLen; omega) (Nat.le_refl _)
  refine ⟨wa, hmk, ?_, Kp.ofN hga _⟩
  have e : (madeCells (Value.int .i64 0).cells (n * 1)).toList = (List.replicate n (0 : Int)).map (Value.int .i64) := by
    show (madeCells #[Value.int .i64 0] (n * 1)).toList = _
    rw [toList_madeCells_one]
    simp
  unfold Ow
  rw [List.length_replicate, ← e]
  exact hOa

theorem set_next (pre : List Int) (m : Nat) (x : Int) : (pre ++ List.replicate (m + 1) 0).set pre.length x = (pre ++ [x]) ++ List.replicate m 0 := by
  rw [List.set_append_right _ _ (Nat.le_refl _), Nat.sub_self, List.replicate_succ, List.set_cons_zero, List.append_assoc]
  rfl

end Go.Proofs.Ytpoahegccjgnjaa

namespace Go.Proofs.Ytpoahegccjgnjaa
open Go.RowKit
open Go.ChangeMaps (setBlock)
set_option linter.unusedVariables false

def lvL : List Int := [3, 258]
def lvS : ByteArray := ⟨#[2, 0, 3, 1, 2]⟩
def lvW : ByteArray := ⟨(whole lvS.data.toList).toArray⟩
theorem lv_wE : wE lvL = 0 := by kernel_rfl
theorem lv_wB : (⟨(wB lvL).toArray⟩ : ByteArray) = lvW := by kernel_rfl
theorem lv_rE : rE lvW = 0 := by kernel_rfl
theorem lv_rL : rL lvW = lvL := by kernel_rfl
theorem lv_mk : saysB ⟨(markL true).toArray⟩ = true := by kernel_rfl
theorem lv_size : lvW.size = 64 := by kernel_rfl
theorem sl_two (w : World) (x y : Int) : Sl (Value.int .i64) (w.heap.size + 1) (w.alloc (.cells #[.int .i64 x, .int .i64 y] 3)) (.slice (some ⟨w.heap.size, 0, none⟩) 2 2) [x, y] := by
  refine ⟨_, 2, rfl, by simp, by unfold maxLen; omega, fun i hi => ⟨w.heap.size, 0, rfl, Nat.lt_succ_self _, ?_⟩⟩
  rw [cell_of_row _ _ _ _ _ _ (heap_alloc_last w _)]
  match i, hi with
  | 0, _ => rfl
  | 1, _ => rfl

end Go.Proofs.Ytpoahegccjgnjaa

namespace Go.Proofs.Ytpoahegccjgnjaa
open Go

theorem wE_ok {l : List Int} (h : wE l = 0) : l.length ≤ 31 ∧ okP l = true := by
  unfold wE at h
  split at h
  · cases h
  · split at h
    · rename_i h1 h2; exact ⟨by omega, h2⟩
    · cases h
theorem wB_len (l : List Int) : (wB l).length ≤ 64 := by
  unfold wB
  split
  · rw [whole_len]; omega
  · simp
theorem wB_ok {l : List Int} (h : wE l = 0) : wB l = encP l ++ noughts.drop (encP l).length := by
  unfold wB
  rw [if_pos h]
  exact whole_short _ (by rw [encP_len]; have := (wE_ok h).1; omega)
theorem rd_pages : ∀ (l : List Int) (z : List UInt8), (∀ x ∈ l, 0 ≤ x ∧ x < 65536) → rdN l.length (mkB (pagesB l ++ z)) 0 = l
  | [], _, _ => rfl
  | x :: l, z, h => by
    have hx := h x (by simp)
    have e : pagesB (x :: l) ++ z = be x.toNat 2 ++ (pagesB l ++ z) := by simp [pagesB]
    have hr := raw_app (be x.toNat 2) (pagesB l ++ z)
    rw [be_len] at hr
    obtain ⟨h1, h2, h3⟩ := hr
    have h1' : rawR (mkB (be x.toNat 2 ++ (pagesB l ++ z))) 0 2 = mkB (be x.toNat 2) := h1
    have h2' : rawS (mkB (be x.toNat 2 ++ (pagesB l ++ z))) 0 2 = mkB (pagesB l ++ z) := h2
    have h3' : rawE (mkB (be x.toNat 2 ++ (pagesB l ++ z))) 0 2 = 0 := h3
    rw [List.length_cons, rdN, e, h1', h2', h3', rd_pages l z (fun y hy => h y (by simp [hy])), mkB_list, val_be]
    congr 1
    have : x.toNat % 2 ^ (8 * 2) = x.toNat := Nat.mod_eq_of_lt (by omega)
    rw [this]
    omega
theorem back_pgs {l : List Int} (h : wE l = 0) : pgs ⟨(wB l).toArray⟩ = l := by
  have ho := wE_ok h
  show pgs (mkB (wB l)) = l
  rw [wB_ok h]
  generalize noughts.drop (encP l).length = z
  unfold encP
  rw [List.append_assoc]
  have hr := raw_app (be l.length 1) (pagesB l ++ z)
  rw [be_len] at hr
  obtain ⟨h1, h2, h3⟩ := hr
  have h1' : rawR (mkB (be l.length 1 ++ (pagesB l ++ z))) 0 1 = mkB (be l.length 1) := h1
  have h2' : rawS (mkB (be l.length 1 ++ (pagesB l ++ z))) 0 1 = mkB (pagesB l ++ z) := h2
  have h3' : rawE (mkB (be l.length 1 ++ (pagesB l ++ z))) 0 1 = 0 := h3
  unfold pgs cnt
  rw [h1', h2', h3', mkB_list, val_be]
  have e : l.length % 2 ^ (8 * 1) = l.length := Nat.mod_eq_of_lt (by omega)
  rw [e]
  have hp := ho.2
  unfold okP at hp
  simp only [decide_eq_true_eq] at hp
  exact rd_pages l z hp.1
theorem back_read {l : List Int} (h : wE l = 0) : rE ⟨(wB l).toArray⟩ = 0 ∧ rL ⟨(wB l).toArray⟩ = l := by
  have hp := back_pgs h
  have ho : rOk ⟨(wB l).toArray⟩ = true := by unfold rOk; rw [hp]; simp [h]
  exact ⟨by simp [rE, ho], by simp [rL, ho, hp]⟩
theorem read_ok {s : ByteArray} (h : rE s = 0) : wE (rL s) = 0 ∧ wB (rL s) = s.data.toList ∧ rL s = pgs s := by
  have ho : rOk s = true := by
    cases e : rOk s with
    | true => rfl
    | false => unfold rE at h; rw [e] at h; cases h
  have hl : rL s = pgs s := by simp [rL, ho]
  unfold rOk at ho
  simp only [decide_eq_true_eq] at ho
  rw [hl]
  exact ⟨ho.1, ho.2, rfl⟩
theorem rE_bad {s : ByteArray} (h : rE s ≠ 0) : rE s = 10 ∧ rL s = [] := by
  have ho : rOk s = false := by
    cases e : rOk s with
    | false => rfl
    | true => exact absurd (by simp [rE, e]) h
  exact ⟨by simp [rE, ho], by simp [rL, ho]⟩
theorem rL_i64 (s : ByteArray) : i64s (rL s) := by
  unfold rL
  split
  · exact pgs_i64 s
  · intro z hz; simp at hz
theorem rL_len (s : ByteArray) : (rL s).length ≤ 255 := by
  unfold rL
  split
  · rw [pgs_len]; have := cnt_lt s; omega
  · simp
/-- Enough bytes are read without an error. -/
theorem rdE_ok : ∀ (n : Nat) (s : ByteArray), 2 * n ≤ s.size → rdE n s 0 = 0
  | 0, _, _ => rfl
  | n + 1, s, h => by
    have h1 : rawE s 0 2 = 0 := by unfold rawE; simp; omega
    have h2 : (rawS s 0 2).size = s.size - 2 := by
      unfold rawS
      rw [if_neg (by omega), ByteArray.size_extract]
      show min s.size s.size - 2 = _
      omega
    rw [rdE, h1]
    exact rdE_ok n _ (by omega)
theorem rdE_stays : ∀ (n : Nat) (s : ByteArray) (e : Int), e ≠ 0 → rdE n s e = e
  | 0, _, _, _ => rfl
  | n + 1, s, e, h => by
    have h1 : rawE s e 2 = e := by unfold rawE; simp [h]
    rw [rdE, h1]
    exact rdE_stays n _ e h
theorem ok_well {s : ByteArray} (h : rOk s = true) : rdE (cnt s) (rawS s 0 1) (rawE s 0 1) = 0 := by
  unfold rOk at h
  simp only [decide_eq_true_eq] at h
  have hl := (wE_ok h.1).1
  rw [pgs_len] at hl
  have hs : s.size = 64 := by
    have h2 := congrArg List.length h.2
    unfold wB at h2
    rw [if_pos h.1, whole_len, Array.length_toList] at h2
    exact h2.symm
  have h1 : rawE s 0 1 = 0 := by unfold rawE; simp; omega
  have h2 : (rawS s 0 1).size = s.size - 1 := by
    unfold rawS
    rw [if_neg (by omega), ByteArray.size_extract]
    show min s.size s.size - 1 = _
    omega
  rw [h1]
  exact rdE_ok _ _ (by omega)

end Go.Proofs.Ytpoahegccjgnjaa

namespace Go.Proofs.Ytpoahegccjgnjaa
open Go.RowKit
set_option linter.unusedVariables false

/-- A page's sectors. -/
def cutAt (s : ByteArray) (j : Nat) : ByteArray := s.extract (j * 64) ((j + 1) * 64)
def cuts (s : ByteArray) (n : Nat) : List ByteArray := (List.range n).map (cutAt s)
theorem cuts_len (s : ByteArray) (n : Nat) : (cuts s n).length = n := by simp [cuts]
theorem cuts_succ (s : ByteArray) (n : Nat) : cuts s (n + 1) = cuts s n ++ [cutAt s n] := by simp [cuts, List.range_succ]
def cutE (s : ByteArray) : Int := if s.size = 256 then 0 else 1
def cutL (s : ByteArray) : List ByteArray := if s.size = 256 then cuts s 4 else []
theorem infoStr : (Try.prog.info? 9).map (fun i => (i.zero, i.size, i.bytes)) = some (some (.string ByteArray.empty), 1, 16) := by kernel_rfl
theorem set_nextS (pre : List ByteArray) (m : Nat) (x : ByteArray) : (pre ++ List.replicate (m + 1) ByteArray.empty).set pre.length x = (pre ++ [x]) ++ List.replicate m ByteArray.empty := by
  rw [List.set_append_right _ _ (Nat.le_refl _), Nat.sub_self, List.replicate_succ, List.set_cons_zero, List.append_assoc]
  rfl

end Go.Proofs.Ytpoahegccjgnjaa

namespace Go.Proofs.Ytpoahegccjgnjaa
open Go.RowKit
set_option linter.unusedVariables false

/-- Are they a page's sectors; their bytes; what Join answers. -/
def okJ (l : List ByteArray) : Bool := decide (l.length = 4 ∧ ∀ s ∈ l, s.size = 64)
def catB (l : List ByteArray) : List UInt8 := l.flatMap fun s => s.data.toList
def joinS (l : List ByteArray) : ByteArray := ⟨(if okJ l then catB l else []).toArray⟩
def joinE (l : List ByteArray) : Int := if okJ l then 0 else 1
theorem catB_len : ∀ (l : List ByteArray), (∀ s ∈ l, s.size = 64) → (catB l).length = 64 * l.length
  | [], _ => rfl
  | s :: l, h => by
    have h1 := catB_len l (fun x hx => h x (by simp [hx]))
    have h2 := h s (by simp)
    have e : (catB (s :: l)).length = s.data.toList.length + (catB l).length := by simp [catB]
    have e2 : s.data.toList.length = s.size := by rw [Array.length_toList]; rfl
    rw [e, h1, e2, h2, List.length_cons]
    omega
theorem catB_take (l : List ByteArray) (k : Nat) (h : k < l.length) : catB (l.take (k + 1)) = catB (l.take k) ++ l[k].data.toList := by
  unfold catB
  rw [List.take_succ_eq_append_getElem h, List.flatMap_append, List.flatMap_cons, List.flatMap_nil, List.append_nil]
theorem cat_str (a : List UInt8) (s : ByteArray) : (⟨a.toArray⟩ : ByteArray) ++ s = ⟨(a ++ s.data.toList).toArray⟩ := by
  apply ByteArray.ext
  rw [ByteArray.data_append]
  apply Array.ext'
  simp
theorem okJ_bad {l : List ByteArray} {k : Nat} (hk : k < l.length) (h : l[k].size ≠ 64) : okJ l = false := by
  unfold okJ
  rw [decide_eq_false_iff_not]
  rintro ⟨_, h2⟩
  exact h (h2 _ (List.getElem_mem hk))

end Go.Proofs.Ytpoahegccjgnjaa
