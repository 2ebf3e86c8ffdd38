/- A box beside the row of all that was added to it: what each call makes of both. Conditions: those that each theorem states. -/
import Derived.Test.YtamgnpmkmlhadaaOPly
namespace Go.Proofs.Ytamgnpmkmlhadaa
open Go Go.RowKit
set_option linter.unusedVariables false

/-- A box, and the row of all that was added, in blocks that the law has made. -/
structure Dn (w0 w : World) (p : Nat) (v : Value) (g : Option Nat) (A : Nat) (l : List Ms) (vD : Value) (D : List Ms) : Prop where
  bx : Bx w p v g A l
  ow : OwM w w0.heap.size vD D
  sep : ∀ k, vD.ownBlock = some k → ¬ Ft p g k
  n1 : ∀ k, Ft p g k → w0.heap.size ≤ k
  kp : Kp none' w0 w
section
variable {w0 w w' : World} {p : Nat} {v : Value} {g : Option Nat} {A : Nat} {l : List Ms} {vD : Value} {D : List Ms}
theorem Dn.keptN (h : Dn w0 w p v g A l vD D) (hk : Kp none' w w') : Dn w0 w' p v g A l vD D :=
  ⟨h.bx.keptN hk, h.ow.kp hk (fun _ _ h => h), h.sep, h.n1, h.kp.then hk⟩
theorem Dn.go {A' : Nat} {l' : List Ms} (h : Dn w0 w p v g A l vD D) (hn : Nx p g A' l' w w') : ∃ v' g', Dn w0 w' p v' g' A' l' vD D ∧ Kp (Ft p g) w w' ∧ ∀ k, Ft p g' k → Ft p g k ∨ w.heap.size ≤ k := by
  obtain ⟨v', g', hb, hk, hg⟩ := hn
  have hf : ∀ k, Ft p g' k → Ft p g k ∨ w.heap.size ≤ k := fun k hk => by
    rcases hk with rfl | hk
    · exact .inl (.inl rfl)
    · exact (hg k hk).imp .inr id
  refine ⟨v', g', ⟨hb, h.ow.kp hk h.sep, fun k h1 h2 => ?_, fun k h1 => ?_, h.kp.trans hk (fun _ _ h => h) (fun k hk h1 => absurd hk (by have := h.n1 k h1; omega))⟩, hk, hf⟩
  · rcases hf k h2 with h3 | h3
    · exact h.sep k h1 h3
    · have := (h.ow.lt k h1).2
      omega
  · rcases hf k h1 with h3 | h3
    · exact h.n1 k h3
    · have := h.kp.size
      omega
theorem Dn.app (h : Dn w0 w p v g A l vD D) (m : Ms) (hl : D.length ≤ 1000000) :
    ∃ v' w', (Builtin.append_ #[39, 39] 39 #[vD, .slice (some ⟨w.heap.size, 0, none⟩) 1 1]).run Try.prog (w.alloc (.cells #[.int .i64 m.q, .int .i64 m.f, .int .i64 m.t, .int .i64 m.v.k, .int .i64 m.v.n, .string m.v.s] 26)) = .ok v' w' ∧ Dn w0 w' p v g A l v' (D ++ [m]) ∧ Kp (fun k => vD.ownBlock = some k) w w' := by
  have hga := World.grownBy_alloc w (.cells #[.int .i64 m.q, .int .i64 m.f, .int .i64 m.t, .int .i64 m.v.k, .int .i64 m.v.n, .string m.v.s] 26) none
  have ka := Kp.ofN hga none'
  have hB := h.kp.size
  obtain ⟨v', w', h1, h2, h3, h4⟩ := appM _ w0.heap.size vD _ D [m] (h.ow.keptN hga) (rw_oneM m (Mb.new w m)) (Nat.le_trans hB hga.size) (by simp; omega)
  have k1 : Kp (fun k => vD.ownBlock = some k) w w' := ka.nThen (Kp.ofGrown h3 (fun k e _ => e))
  refine ⟨v', w', h1, ⟨h.bx.kept k1 (fun k a b => h.sep k b a), h2, fun k a b => ?_, h.n1, h.kp.trans k1 (fun _ _ h => h) (fun k hk e => absurd hk (by have := (h.ow.lt k e).1; omega))⟩, k1⟩
  rcases h4 with e | e
  · exact h.sep k (by rw [← e]; exact a) b
  · rw [e] at a
    cases a
    have := h.bx.ltF _ b
    have := hga.size
    omega
end
/-- Beside a step. -/
def Db (w0 w : World) (p A : Nat) (l : List Ms) (vD : Value) (D : List Ms) (b : Nat) (o : Oo) : Prop := ∃ v g, Dn w0 w p v g A l vD D ∧ Ob w b o ∧ ¬ Ft p g b ∧ vD.ownBlock ≠ some b
def Dl (w0 w : World) (p A : Nat) (l : List Ms) (vD : Value) (D : List Ms) : Prop := ∃ v g, Dn w0 w p v g A l vD D
section
variable {w0 w w' : World} {p A : Nat} {l : List Ms} {vD : Value} {D : List Ms} {b : Nat} {o : Oo}
theorem Dl.keptN (h : Dl w0 w p A l vD D) (hk : Kp none' w w') : Dl w0 w' p A l vD D := by
  obtain ⟨v, g, h⟩ := h
  exact ⟨v, g, h.keptN hk⟩
theorem Dl.kp (h : Dl w0 w p A l vD D) : Kp none' w0 w := by
  obtain ⟨v, g, h⟩ := h
  exact h.kp
theorem Dl.step (h : Dl w0 w p A l vD D) (o : Oo) : ∃ W, w.alloc (.cells #[.int .i64 o.kd, .int .i64 o.n, .int .i64 o.k, .int .i64 o.m.q, .int .i64 o.m.f, .int .i64 o.m.t, .int .i64 o.m.v.k, .int .i64 o.m.v.n, .string o.m.v.s] 43) = W ∧ Db w0 W p A l vD D w.heap.size o := by
  obtain ⟨v, g, h⟩ := h
  obtain ⟨W, e, hb, hk⟩ := Ob.mk w o
  exact ⟨W, e, v, g, h.keptN hk, hb, fun hf => by have := h.bx.ltF _ hf; omega, fun hf => by have := (h.ow.lt _ hf).2; omega⟩
theorem Db.keptN (h : Db w0 w p A l vD D b o) (hk : Kp none' w w') : Db w0 w' p A l vD D b o := by
  obtain ⟨v, g, h, hb, h1, h2⟩ := h
  exact ⟨v, g, h.keptN hk, hb.keptN hk, h1, h2⟩
theorem Db.dl (h : Db w0 w p A l vD D b o) : Dl w0 w p A l vD D := by
  obtain ⟨v, g, h, _⟩ := h
  exact ⟨v, g, h⟩
theorem Db.ob (h : Db w0 w p A l vD D b o) : Ob w b o := by
  obtain ⟨v, g, _, h, _⟩ := h
  exact h
theorem Db.go {A' : Nat} {l' : List Ms} {g : Option Nat} {v : Value} (h : Dn w0 w p v g A l vD D) (hb : Ob w b o) (h1 : ¬ Ft p g b) (h2 : vD.ownBlock ≠ some b) (hn : Nx p g A' l' w w') : Db w0 w' p A' l' vD D b o := by
  obtain ⟨v', g', h', hk, hf⟩ := h.go hn
  exact ⟨v', g', h', hb.kept hk h1, fun h3 => (hf b h3).elim h1 (fun h4 => by have := hb.lt; omega), h2⟩
theorem Db.add (h : Db w0 w p A l vD D b o) (f t : Int) (x : V) (hf : ir f) (ht : ir t) (hx : x.wf) (hl : A + l.length < 1000) :
    Calls Try.prog 16 #[.pointer (some ⟨p, 0, none⟩), .int .i64 f, .int .i64 t, x.val] w fun e w' => e = .returned (.tuple #[.int .i64 (nN9 A l f t x), .int .i64 (eN9 A l f t x)]) ∧ Db w0 w' p A (xN A l f t x) vD D b o := by
  obtain ⟨v, g, h, hb, h1, h2⟩ := h
  refine (oadd_all f t x w h.bx hf ht hx hl).mono ?_
  rintro e w' ⟨rfl, hn⟩
  exact ⟨rfl, Db.go h hb h1 h2 hn⟩
theorem Db.ack (h : Db w0 w p A l vD D b o) (z : Int) (hz : ir z) :
    Calls Try.prog 18 #[.pointer (some ⟨p, 0, none⟩), .int .i64 z] w fun e w' => e = .returned (.int .i64 (ackE A l z)) ∧ Db w0 w' p (aN A l z) (lN A l z) vD D b o := by
  obtain ⟨v, g, h, hb, h1, h2⟩ := h
  refine (oack_all z w h.bx hz).mono ?_
  rintro e w' ⟨rfl, hn⟩
  exact ⟨rfl, Db.go h hb h1 h2 hn⟩
theorem Db.app (h : Db w0 w p A l vD D b o) (m : Ms) (hl : D.length ≤ 1000000) :
    ∃ v' w', (Builtin.append_ #[39, 39] 39 #[vD, .slice (some ⟨w.heap.size, 0, none⟩) 1 1]).run Try.prog (w.alloc (.cells #[.int .i64 m.q, .int .i64 m.f, .int .i64 m.t, .int .i64 m.v.k, .int .i64 m.v.n, .string m.v.s] 26)) = .ok v' w' ∧ Dl w0 w' p A l v' (D ++ [m]) := by
  obtain ⟨v, g, h, hb, h1, h2⟩ := h
  obtain ⟨v', w', hr, hd, _⟩ := h.app m hl
  exact ⟨v', w', hr, v, g, hd⟩
theorem Dl.slc (h : Dl w0 w p A l vD D) : ∃ a c, vD = .slice a D.length c := by
  obtain ⟨v, g, h⟩ := h
  exact h.ow.slc
end
theorem Dl.new {w0 w1 w3 : World} (hk : Kp none' w0 w1) (e : w3 = w1.alloc (.cells #[.int .i64 0, .slice none 0 0] 73)) : Dl w0 w3 w1.heap.size 0 [] (.slice none 0 0) [] := by
  have hb := Bx.new w1
  rw [← e] at hb
  have k3 : Kp none' w1 w3 := by rw [e]; exact Kp.alloc _ _ _
  have s1 := hk.size
  exact ⟨_, none, hb, OwR.nil, fun k h => (by cases h), fun k h1 => (by have : k = w1.heap.size := h1.elim id (fun h => (by cases h)); omega), hk.then k3⟩
/-- What is there is what was added above the mark. -/
theorem drop_add {D : List Ms} {A : Nat} (h : A ≤ D.length) (m : Ms) : (D ++ [m]).drop A = D.drop A ++ [m] := List.drop_append_of_le_length h
theorem drop_ack {D : List Ms} {A : Nat} (h : A ≤ D.length) (z : Int) : lN A (D.drop A) z = D.drop (aN A (D.drop A) z) ∧ A ≤ aN A (D.drop A) z ∧ aN A (D.drop A) z ≤ D.length := by
  have := aN_le A (D.drop A) z
  rw [List.length_drop] at this
  refine ⟨?_, by omega, by omega⟩
  unfold lN
  rw [List.drop_drop]
  congr 1
  omega
theorem frm_all (A : Nat) (l : List Ms) (n : Nat) (h : l.length ≤ n) : frm A l 0 n = l := by
  unfold frm
  rw [show (max (0 : Int) (A : Int) - (A : Int)).toNat = 0 by omega, List.drop_zero, List.take_of_length_le (by omega)]

end Go.Proofs.Ytamgnpmkmlhadaa
