/- Contracts, over the turned program: the document's Join of sectors. Conditions: those that each theorem states. -/
import Derived.Test.YtgfijbbibafdfaaGreatUCut
namespace Go.Proofs.YtgfijbbibafdfaaGreat
open Go.RowKit
set_option linter.unusedVariables false

/-- Are they a page's sectors; their bytes; what Join answers. -/
def okJ (l : List ByteArray) : Bool := decide (l.length = 4 ∧ ∀ s ∈ l, s.size = 64)
def catB (l : List ByteArray) : List UInt8 := l.flatMap fun s => s.data.toList
def joinS (l : List ByteArray) : ByteArray := ⟨(if okJ l then catB l else []).toArray⟩
def joinE (l : List ByteArray) : Int := if okJ l then 0 else 1
theorem catB_len : ∀ (l : List ByteArray), (∀ s ∈ l, s.size = 64) → (catB l).length = 64 * l.length
  | [], _ => rfl
  | s :: l, h => by
    have h1 := catB_len l (fun x hx => h x (by simp [hx]))
    have h2 := h s (by simp)
    have e : (catB (s :: l)).length = s.data.toList.length + (catB l).length := by simp [catB]
    have e2 : s.data.toList.length = s.size := by rw [Array.length_toList]; rfl
    rw [e, h1, e2, h2, List.length_cons]
    omega
theorem catB_take (l : List ByteArray) (k : Nat) (h : k < l.length) : catB (l.take (k + 1)) = catB (l.take k) ++ l[k].data.toList := by
  unfold catB
  rw [List.take_succ_eq_append_getElem h, List.flatMap_append, List.flatMap_cons, List.flatMap_nil, List.append_nil]
theorem cat_str (a : List UInt8) (s : ByteArray) : (⟨a.toArray⟩ : ByteArray) ++ s = ⟨(a ++ s.data.toList).toArray⟩ := by
  apply ByteArray.ext
  rw [ByteArray.data_append]
  apply Array.ext'
  simp
theorem okJ_bad {l : List ByteArray} {k : Nat} (hk : k < l.length) (h : l[k].size ≠ 64) : okJ l = false := by
  unfold okJ
  rw [decide_eq_false_iff_not]
  rintro ⟨_, h2⟩
  exact h (h2 _ (List.getElem_mem hk))

end Go.Proofs.YtgfijbbibafdfaaGreat
