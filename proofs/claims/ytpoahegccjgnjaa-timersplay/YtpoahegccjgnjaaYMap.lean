/- A key taken out of a map. Conditions: those that each theorem states. -/
import Derived.Test.YtpoahegccjgnjaaJU
namespace Go.Proofs.Ytpoahegccjgnjaa
open Go.RowKit
open Go.ChangeMaps (setBlock)
set_option linter.unusedVariables false

/-- One entry less. -/
def delI (c : Int → Option Value) (z : Int) : Int → Option Value := fun k => if k = z then none else c k
theorem run_delI {w : World} {m : Nat} {es : Array MapEntry} {cl : Nat} {c : Int → Option Value} {t e ty : TypeId} (ht : Try.prog.underlying t = some (.map 3 e)) (hm : w.heap[m]? = some (.map es cl)) (h : Mi c es.toList cl) (z : Int) :
    ∃ es' cl', (Builtin.delete_ #[t, 3] ty #[.map (some m), .int .i64 z]).run Try.prog w = .ok (.tuple #[]) (setBlock w m (.map es' cl')) ∧ Mi (delI c z) es'.toList cl' := by
  have h1 : (#[t, 3] : Array TypeId)[0]? = some t := rfl
  have h2 : (#[Value.map (some m), .int .i64 z] : Array Value)[0]? = some (.map (some m)) := rfl
  have h3 : (#[Value.map (some m), .int .i64 z] : Array Value)[1]? = some (.int .i64 z) := rfl
  rcases h.find z with ⟨q1, q2, q3⟩ | ⟨j, e, q1, q3, q4, q2⟩
  · refine ⟨es, cl, ?_, ?_⟩
    · simp only [Builtin.delete_, h1, h2, h3, Sem.run_bind, run_underlying ht, Result.andThen_ok, MapKept.run_getObj_map hm, Sem.run_pure, run_check, Instr.findKey, run_underlying Try.underlying3, q2, MapKept.run_setObj_map _ hm]
      rfl
    · have : delI c z = c := by
        funext k
        unfold delI
        split
        · rename_i e; subst e; exact q1.symm
        · rfl
      rw [this]
      exact h
  · refine ⟨es.eraseIdxIfInBounds j, cl, ?_, ?_⟩
    · simp only [Builtin.delete_, h1, h2, h3, Sem.run_bind, run_underlying ht, Result.andThen_ok, MapKept.run_getObj_map hm, Sem.run_pure, run_check, Instr.findKey, run_underlying Try.underlying3, q2, MapKept.run_setObj_map _ hm]
      rfl
    · have hl : (es.eraseIdxIfInBounds j).toList = es.toList.eraseIdx j := by simp
      rw [hl]
      have huniq : ∀ k e', es.toList[k]? = some e' → e'.key = .int .i64 z → k = j := fun k e' hk hkey => by
        have hp := List.pairwise_iff_getElem.1 h.e3
        obtain ⟨lk, vk⟩ := List.getElem?_eq_some_iff.1 hk
        obtain ⟨lj, vj⟩ := List.getElem?_eq_some_iff.1 q3
        rcases Nat.lt_trichotomy k j with hlt | heq | hgt
        · exact absurd (by rw [vk, vj, hkey, q4]) (hp k j lk lj hlt)
        · exact heq
        · exact absurd (by rw [vk, vj, hkey, q4]) (hp j k lj lk hgt)
      have hsub := List.eraseIdx_sublist es.toList j
      refine ⟨fun e' he' => ?_, fun k y hk => ?_, h.e3.sublist hsub, fun e' he' => h.e4 e' (hsub.subset he'), h.e5.sublist (hsub.map _)⟩
      · obtain ⟨i, hi, hie⟩ := List.mem_eraseIdx_iff_getElem?.1 he'
        obtain ⟨k, a, b⟩ := h.e1 e' (List.mem_of_getElem? hie)
        have hkz : k ≠ z := fun e0 => hi (huniq i e' hie (by rw [a, e0]))
        exact ⟨k, a, by simp [delI, hkz, b]⟩
      · have hkz : k ≠ z := fun e0 => by simp [delI, e0] at hk
        simp only [delI, hkz, if_false] at hk
        obtain ⟨e', he', hk'⟩ := h.e2 k y hk
        obtain ⟨i, hi⟩ := List.getElem?_of_mem he'
        refine ⟨e', List.mem_eraseIdx_iff_getElem?.2 ⟨i, fun e0 => ?_, hi⟩, hk'⟩
        subst e0
        rw [q3] at hi
        cases hi
        rw [q4] at hk'
        exact hkz ((Value.int.inj hk').2).symm

end Go.Proofs.Ytpoahegccjgnjaa
