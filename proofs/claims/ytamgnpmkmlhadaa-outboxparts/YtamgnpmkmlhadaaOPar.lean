/- What is told in lots: a box beside the row of all that was told. Conditions: those that each theorem states. -/
import Derived.Test.YtamgnpmkmlhadaaODn
namespace Go.Proofs.Ytamgnpmkmlhadaa
open Go Go.RowKit
set_option linter.unusedVariables false

section
variable {w0 w w' : World} {p : Nat} {A : Nat} {l : List Ms} {vD : Value} {D : List Ms}
theorem Dl.add (h : Dl w0 w p A l vD D) (f t : Int) (x : V) (hf : ir f) (ht : ir t) (hx : x.wf) (hl : A + l.length < 1000) :
    Calls Try.prog 16 #[.pointer (some ⟨p, 0, none⟩), .int .i64 f, .int .i64 t, x.val] w fun e w' => e = .returned (.tuple #[.int .i64 (nN9 A l f t x), .int .i64 (eN9 A l f t x)]) ∧ Dl w0 w' p A (xN A l f t x) vD D := by
  obtain ⟨v, g, h⟩ := h
  refine (oadd_all f t x w h.bx hf ht hx hl).mono ?_
  rintro e w' ⟨rfl, hn⟩
  obtain ⟨v', g', h', _⟩ := h.go hn
  exact ⟨rfl, v', g', h'⟩
theorem Dl.from (h : Dl w0 w p A l vD D) (z n : Int) (hz : ir z) (hn : ir n) :
    Calls Try.prog 21 #[.pointer (some ⟨p, 0, none⟩), .int .i64 z, .int .i64 n] w fun e w' => ∃ u, e = .returned u ∧ OwM w' w.heap.size u (frm A l z n) ∧ w.grownBy w' none ∧ Dl w0 w' p A l vD D := by
  have h2 := h
  obtain ⟨v, g, h⟩ := h
  refine (ofrom_any z n w h.bx hz hn).mono ?_
  rintro e w' ⟨⟨u, rfl, ho⟩, hg⟩
  exact ⟨u, rfl, ho, hg, h2.keptN (Kp.ofN hg none')⟩
theorem Dl.len (h : Dl w0 w p A l vD D) : Calls Try.prog 25 #[.pointer (some ⟨p, 0, none⟩)] w fun e w' => e = .returned (.int .i64 (l.length : Int)) ∧ w' = w := by
  obtain ⟨v, g, h⟩ := h
  exact olen_any w h.bx
theorem Dl.app (h : Dl w0 w p A l vD D) (x : Value) (k : List Ms) (hx : RwM w x k) (hl : D.length + k.length ≤ 1000000) :
    ∃ v' w', (Builtin.append_ #[39, 39] 39 #[vD, x]).run Try.prog w = .ok v' w' ∧ Dl w0 w' p A l v' (D ++ k) := by
  obtain ⟨v, g, h⟩ := h
  have hB := h.kp.size
  obtain ⟨v', w', h1, h2, h3, h4⟩ := appM _ w0.heap.size vD _ D k h.ow hx hB (by omega)
  have k1 : Kp (fun k => vD.ownBlock = some k) w w' := Kp.ofGrown h3 (fun k e _ => e)
  refine ⟨v', w', h1, v, g, h.bx.kept k1 (fun k a b => h.sep k b a), h2, fun k a b => ?_, h.n1, h.kp.trans k1 (fun _ _ h => h) (fun k hk e => absurd hk (by have := (h.ow.lt k e).1; omega))⟩
  rcases h4 with e | e
  · exact h.sep k (by rw [← e]; exact a) b
  · rw [e] at a
    cases a
    have := h.bx.ltF _ b
    omega
theorem Dl.own (h : Dl w0 w p A l vD D) : OwM w w0.heap.size vD D := by
  obtain ⟨v, g, h⟩ := h
  exact h.ow
theorem Dl.rw9 (h : Dl w0 w p A l vD D) : Rw9 A l := by
  obtain ⟨v, g, h⟩ := h
  exact h.bx.rw
end
/-- A lot: what is told above a number. -/
theorem frm_lot (l : List Ms) (j n : Nat) (hj : j ≤ l.length) : (frm 0 l j n).length = min n (l.length - j) ∧ l.take j ++ frm 0 l j n = l.take (j + min n (l.length - j)) := by
  have e : frm 0 l j n = (l.drop j).take n := by
    unfold frm
    rw [show (max (j : Int) ((0 : Nat) : Int) - ((0 : Nat) : Int)).toNat = j by omega, show (n : Int).toNat = n by omega]
  have e2 : (l.drop j).take n = (l.drop j).take (min n (l.length - j)) := by
    by_cases h : n ≤ l.length - j
    · rw [Nat.min_eq_left h]
    · rw [Nat.min_eq_right (by omega), List.take_of_length_le (by rw [List.length_drop]; omega), List.take_of_length_le (by rw [List.length_drop]; omega)]
  refine ⟨by rw [e, List.length_take, List.length_drop], ?_⟩
  rw [e, e2, List.take_add]
theorem frm_last (l : List Ms) (hr : Rw9 0 l) (j n : Nat) (hj : j ≤ l.length) (k : Nat) (hk : k < (frm 0 l j n).length) : ((frm 0 l j n)[k]).q = (j : Int) + (k : Int) + 1 := by
  have e : frm 0 l j n = (l.drop j).take n := by
    unfold frm
    rw [show (max (j : Int) ((0 : Nat) : Int) - ((0 : Nat) : Int)).toNat = j by omega, show (n : Int).toNat = n by omega]
  have hl : j + k < l.length := by
    rw [(frm_lot l j n hj).1] at hk
    omega
  have h1 := hr.num (j + k) hl
  have h2 : (frm 0 l j n)[k] = l[j + k] := by
    simp only [e, List.getElem_take, List.getElem_drop]
  rw [h2, h1]
  omega

end Go.Proofs.Ytamgnpmkmlhadaa
