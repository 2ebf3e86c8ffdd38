/- Timers beside the document's: each call of one of both. Conditions: those that each theorem states. -/
import Derived.Test.YtpoahegccjgnjaaYRst
import Derived.Test.YtpoahegccjgnjaaYRdu
namespace Go.Proofs.Ytpoahegccjgnjaa
open Go Go.RowKit
set_option linter.unusedVariables false
/-- The program's timers with the pairs A, the document's with the pairs L. -/
structure Ply (w wr : World) (p q : Nat) (F : Nat → Prop) (v : Value) (A L : List (Int × Int)) : Prop where
  tm : Tim wr p F A
  rf : Rf wr q F v L
  bd : ∀ k, F k → w.heap.size ≤ k
  qd : w.heap.size ≤ q
  kp : Kp none' w wr
section
variable {w wr wx : World} {p q : Nat} {F : Nat → Prop} {v : Value} {A A' L L' : List (Int × Int)}
theorem Ply.kept (h : Ply w wr p q F v A L) (hk : Kp none' wr wx) : Ply w wx p q F v A L := ⟨h.tm.kept hk (fun _ _ h => h), h.rf.keptN hk, h.bd, h.qd, h.kp.then hk⟩
theorem Ply.turnA (h : Ply w wr p q F v A L) (ht : Tim wx p F A') (hk : Kp F wr wx) : Ply w wx p q F v A' L :=
  ⟨ht, h.rf.kept hk (fun _ h => h) (fun _ _ h => h), h.bd, h.qd, h.kp.trans hk (fun _ _ h => h) (fun k hl hf => by have := h.bd k hf; omega)⟩
theorem Ply.setA (h : Ply w wr p q F v A L) (hs : SetS p F A' wr wx) : ∃ F', Ply w wx p q F' v A' L := by
  obtain ⟨F', ht, f1, f2, hk⟩ := hs
  have hsz := h.kp.size
  refine ⟨F', ht, h.rf.kept hk (fun _ h => h) (fun k hl hf => ?_), fun k hf => ?_, h.qd, h.kp.trans hk (fun _ _ h => h) (fun k hl hf => by have := h.bd k hf; omega)⟩
  · rcases f2 k hf with hf | hf
    · exact hf
    · omega
  · rcases f2 k hf with hf | hf
    · exact h.bd k hf
    · omega
theorem Ply.turnB {v' : Value} (h : Ply w wr p q F v A L) (hr : Rf wx q F v' L') (hk : Kp (only q) wr wx) : Ply w wx p q F v' A L' :=
  ⟨h.tm.kept hk (fun k hf e => h.rf.nq ((e : k = q) ▸ hf)), hr, h.bd, h.qd, h.kp.trans hk (fun _ _ h => h) (fun k hl e => by have : k = q := e; have := h.qd; omega)⟩
theorem Ply.dropA (h : Ply w wr p q F v A L) (id : Int) : Calls Try.prog 13 #[.pointer (some ⟨p, 0, none⟩), .int .i64 id] wr fun e w' => e = .returned (.bool (tillL id A).isSome) ∧ Ply w w' p q F v (dropL id A) L ∧ Kp F wr w' :=
  (tdrop_any p F A id wr h.tm).mono fun e w' ⟨he, ht, hk⟩ => ⟨he, h.turnA ht hk, hk⟩
theorem Ply.dropB (h : Ply w wr p q F v A L) (id : Int) (hl : L.length ≤ 1000000) (hd : (L.map (·.2)).Nodup) : Calls Try.prog 14 #[.pointer (some ⟨q, 0, none⟩), .int .i64 id] wr fun e w' => e = .returned (.bool (tillL id L).isSome) ∧ ∃ v', Ply w w' p q F v' A (dropL id L) ∧ Kp (only q) wr w' :=
  (rdrop_any q F v L id wr h.rf h.tm.lt hl hd).mono fun e w' ⟨he, v', hr, hk⟩ => ⟨he, v', h.turnB hr hk, hk⟩
theorem Ply.setB (h : Ply w wr p q F v A L) (id till : Int) (hl : L.length ≤ 1000000) (hd : (L.map (·.2)).Nodup) : Calls Try.prog 12 #[.pointer (some ⟨q, 0, none⟩), .int .i64 id, .int .i64 till] wr fun e w' => e = .returned (.tuple #[]) ∧ ∃ v', Ply w w' p q F v' A (setL id till L) ∧ Kp (only q) wr w' :=
  (rset_any q F v L id till wr h.rf h.tm.lt hl hd).mono fun e w' ⟨he, v', hr, hk⟩ => ⟨he, v', h.turnB hr hk, hk⟩
theorem Ply.dueA (h : Ply w wr p q F v A L) (now : Int) : Calls Try.prog 16 #[.pointer (some ⟨p, 0, none⟩), .int .i64 now] wr fun e w' => ∃ u, e = .returned u ∧ Ow (Value.int .i64) 3 w' wr.heap.size u (dueL now A) ∧ Ply w w' p q F v (restL now A) L ∧ Kp F wr w' :=
  (tdue_any p F A now wr h.tm).mono fun e w' ⟨u, he, ho, ht, hk⟩ => ⟨u, he, ho, h.turnA ht hk, hk⟩
theorem Ply.dueB (h : Ply w wr p q F v A L) (now : Int) (hl : L.length ≤ 1000000) : Calls Try.prog 17 #[.pointer (some ⟨q, 0, none⟩), .int .i64 now] wr fun e w' => ∃ u, e = .returned u ∧ Ow (Value.int .i64) 3 w' wr.heap.size u (dueL now L) ∧ ∃ v', Ply w w' p q F v' A (restL now L) ∧ Kp (only q) wr w' :=
  (rdue_any q F v L now wr h.rf hl).mono fun e w' ⟨u, v', he, ho, hr, hk⟩ => ⟨u, he, ho, v', h.turnB hr hk, hk⟩
end
theorem setL_len (id t : Int) (L : List (Int × Int)) : (setL id t L).length ≤ L.length + 1 := by
  unfold setL
  rw [(insL_perm _ _).length_eq, List.length_cons]
  have := List.length_filter_le (fun p : Int × Int => p.2 != id) L
  unfold dropL
  omega
theorem dropL_le (id : Int) (L : List (Int × Int)) : (dropL id L).length ≤ L.length := List.length_filter_le _ _
theorem restL_le (now : Int) (L : List (Int × Int)) : (restL now L).length ≤ L.length := (List.dropWhile_sublist _).length_le

theorem rnew18 (w : World) (F : Nat → Prop) (hF : ∀ k, F k → k < w.heap.size) : ∃ W, w.alloc (.cells #[.slice none 0 0] 30) = W ∧ Kp none' w W ∧ Rf W w.heap.size F (.slice none 0 0) [] := by
  have h := heap_alloc_new w (.cells #[.slice none 0 0] 30)
  refine ⟨_, rfl, Kp.alloc _ _ _, ⟨?_, ?_, Rq.nil _ _, fun hf => by have := hF _ hf; omega, fun b hb => ?_⟩⟩
  · rw [cell_of_row _ _ 0 _ _ (0, 0) h]; rfl
  · unfold World.frozen?
    rw [show (w.alloc (.cells #[.slice none 0 0] 30)).heap[(⟨w.heap.size, 0, none⟩ : Addr).block]? = _ from h]
    simp
  · obtain ⟨off, n, c, e⟩ := hb
    cases e

end Go.Proofs.Ytpoahegccjgnjaa
