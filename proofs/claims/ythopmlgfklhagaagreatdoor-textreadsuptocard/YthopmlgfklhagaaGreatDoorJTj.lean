/- Contract, over the turned program: the instruction that words are, if they are one's. Conditions: those that the theorem states. -/
import Derived.Test.YthopmlgfklhagaaGreatDoorJTi
namespace Go.Proofs.YthopmlgfklhagaaGreatDoor
open Go.RowKit
set_option linter.unusedVariables false

/-- Operand j, where n of them have been read: a number that is read of its word, or 0. -/
def OpR (ws : List (List UInt8)) (n j : Nat) (z : Int) : Prop := if j < n then NumE (ws.getD (j + 1) []) z else z = 0
theorem OpR.step {ws : List (List UInt8)} {k j : Nat} {a z : Int} (h : OpR ws k j a) (hz : NumE (ws.getD (k + 1) []) z) : OpR ws (k + 1) j (if k = j then z else a) := by
  unfold OpR at h ⊢
  by_cases e : k = j
  · subst e
    rw [if_pos (by omega), if_pos rfl]
    exact hz
  · rw [if_neg e]
    by_cases h1 : j < k
    · rw [if_pos (by omega)]
      rw [if_pos h1] at h
      exact h
    · rw [if_neg (by omega)]
      rw [if_neg h1] at h
      exact h
theorem OpR.ir {ws : List (List UInt8)} {n j : Nat} {z : Int} (h : OpR ws n j z) : ir z := by
  unfold OpR at h
  split at h
  · exact ⟨h.1, h.2.1⟩
  · subst h; exact ir_zero
theorem words_at (y : In) (k : Nat) (hk : k < nOps y.op) : (wordsI y).getD (k + 1) [] = Lib.itoa (y.fl k) := by
  have hn := nOps_le y.op
  unfold wordsI
  generalize nOps y.op = n at *
  show (opsW n y ++ _).getD k [] = _
  rcases (by omega : n = 1 ∨ n = 2 ∨ n = 3) with rfl | rfl | rfl
  · obtain rfl : k = 0 := by omega
    rfl
  · rcases (by omega : k = 0 ∨ k = 1) with rfl | rfl <;> rfl
  · rcases (by omega : k = 0 ∨ k = 1 ∨ k = 2) with rfl | rfl | rfl <;> rfl
theorem OpR.eq {y : In} {k : Nat} {z : Int} (hf : fitO (nOps y.op) k (y.fl k) = true) (h : OpR (wordsI y) (nOps y.op) k z) : z = y.fl k := by
  obtain ⟨h1, h2⟩ := fit_lt hf
  unfold OpR at h
  split at h
  · next hk =>
    rw [words_at y k hk] at h
    have := of_decide_eq_true h1
    exact h.2.2 _ (by omega) (by omega) rfl
  · next hk =>
    rcases h2 with h2 | h2
    · exact absurd h2 hk
    · rw [h, h2]
theorem inst_only (ws : List (List UInt8)) (a b c : Int) (v : V) (ha : OpR ws (nOps (opU (ws.headD []))) 0 a) (hb : OpR ws (nOps (opU (ws.headD []))) 1 b) (hc : OpR ws (nOps (opU (ws.headD []))) 2 c)
    (hv : if opU (ws.headD []) = 1 then ValE (ws.getD 2 []) v else v = zV) :
    instU ws = if okI ⟨opU (ws.headD []), a, b, c, v⟩ = true ∧ wordsI ⟨opU (ws.headD []), a, b, c, v⟩ = ws then some ⟨opU (ws.headD []), a, b, c, v⟩ else none := by
  refine instU_read ws _ ⟨?_, ?_, ha.ir, hb.ir, hc.ir⟩ ?_
  · split at hv
    · exact hv.1
    · rw [hv]; exact zV_wf
  · show ir (opU _)
    unfold opU ir
    split <;> omega
  · intro y hy hk he
    obtain ⟨o1, o2, o3, o4, o5⟩ := okI_parts hk
    have hop : opU (ws.headD []) = y.op := by rw [← he]; exact opU_name y.op o1
    rw [hop] at ha hb hc hv
    rw [hop]
    subst he
    have e1 : a = y.a := OpR.eq (k := 0) o2 ha
    have e2 : b = y.b := OpR.eq (k := 1) o3 hb
    have e3 : c = y.c := OpR.eq (k := 2) o4 hc
    have e4 : v = y.v := by
      by_cases h1 : y.op = 1
      · rw [if_pos h1] at hv o5
        have hg : (wordsI y).getD 2 [] = valW y.v := by
          unfold wordsI
          rw [if_pos h1, h1, nOps1]
          rfl
        rw [hg] at hv
        exact hv.2 y.v hy.1 o5 rfl
      · rw [if_neg h1] at hv o5
        rw [hv, (zeroB_iff _).1 o5]
    rw [e1, e2, e3, e4]

/-- What inst answers of words. -/
def insV (ws : List (List UInt8)) : In := (instU ws).getD zI
def insB (ws : List (List UInt8)) : Bool := (instU ws).isSome
/-- Words in the cells of a block. -/
def Wc (w : World) (q off : Nat) (ws : List (List UInt8)) : Prop := ∀ i, i < ws.length → w.cell? ⟨q, off + i, none⟩ = some (.string (mkB (ws.getD i [])))
theorem Wds.open {w : World} {v : Value} {ws : List (List UInt8)} (h : Wds w v ws) (hne : ws ≠ []) : ∃ q off c, v = .slice (some ⟨q, off, none⟩) ws.length c ∧ q < w.heap.size ∧ Wc w q off ws := by
  obtain ⟨p, c, e, h1, h2, h3⟩ := h
  have l1 : 0 < (ws.map mkB).length := by rw [List.length_map]; exact List.length_pos_iff.2 hne
  obtain ⟨q, off, rfl, hq, _⟩ := h3 0 l1
  refine ⟨q, off, c, by rw [e, List.length_map], hq, fun i hi => ?_⟩
  obtain ⟨b1, o1, e1, _, k⟩ := h3 i (by rw [List.length_map]; exact hi)
  cases e1
  rw [k, List.getElem_map, List.getD_eq_getElem?_getD, List.getElem?_eq_getElem hi]
  rfl
theorem Wc.kept {w w' : World} {q off : Nat} {ws : List (List UInt8)} (h : Wc w q off ws) (hq : q < w.heap.size) (hg : w.grownBy w' none) : Wc w' q off ws := fun i hi => by
  rw [cell_same (hg.block q hq (by simp))]
  exact h i hi
theorem szW_none (ws : List (List UInt8)) (hne : ws ≠ []) (h : ((ws.length : Nat) : Int) ≠ szW (opU (ws.headD []))) : instU ws = none := by
  unfold szW at h
  cases hk : opOk (opU (ws.headD [])) with
  | true =>
    rw [hk, if_pos rfl] at h
    exact instU_none ws (fun e => h (by rw [e]))
  | false =>
    unfold instU
    rw [hk]
    rfl
theorem szW_some (ws : List (List UInt8)) (hne : ws ≠ []) (h : ((ws.length : Nat) : Int) = szW (opU (ws.headD []))) : opOk (opU (ws.headD [])) = true ∧ ws.length = wantW (opU (ws.headD [])) := by
  have l1 : 0 < ws.length := List.length_pos_iff.2 hne
  unfold szW at h
  cases hk : opOk (opU (ws.headD [])) with
  | true => rw [hk, if_pos rfl] at h; exact ⟨rfl, by omega⟩
  | false => rw [hk, if_neg (by simp)] at h; omega

end Go.Proofs.YthopmlgfklhagaaGreatDoor
