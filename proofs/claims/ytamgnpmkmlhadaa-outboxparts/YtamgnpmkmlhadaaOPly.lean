/- A box and the document's own one side by side: what each call makes of both. Conditions: those that each theorem states. -/
import Derived.Test.YtamgnpmkmlhadaaORAck
import Derived.Test.YtamgnpmkmlhadaaORAdd
import Derived.Test.YtamgnpmkmlhadaaOFrom
import Derived.Test.YtamgnpmkmlhadaaOSame
import Derived.Test.YtamgnpmkmlhadaaOLv
import Derived.Test.YtamgnpmkmlhadaaOStep
namespace Go.Proofs.Ytamgnpmkmlhadaa
open Go Go.RowKit
set_option linter.unusedVariables false

/-- The mark, and what is there, behind an acknowledgement of whatever number. -/
def aN (a : Nat) (l : List Ms) (z : Int) : Nat := if (a : Int) + (l.length : Int) < z then a else (max z a).toNat
def lN (a : Nat) (l : List Ms) (z : Int) : List Ms := l.drop (aN a l z - a)
theorem aN_le (a : Nat) (l : List Ms) (z : Int) : a ≤ aN a l z ∧ aN a l z ≤ a + l.length := by unfold aN; split <;> omega
theorem aN_sum (a : Nat) (l : List Ms) (z : Int) : aN a l z + (lN a l z).length = a + l.length := by
  have := aN_le a l z
  unfold lN
  rw [List.length_drop]
  omega
theorem oack_all {p : Nat} {v : Value} {g : Option Nat} {a : Nat} {l : List Ms} (z : Int) (w : World) (h : Bx w p v g a l) (hz : ir z) :
    Calls Try.prog 18 #[.pointer (some ⟨p, 0, none⟩), .int .i64 z] w fun e w' => e = .returned (.int .i64 (ackE a l z)) ∧ Nx p g (aN a l z) (lN a l z) w w' := by
  unfold ackE lN aN
  by_cases h1 : (a : Int) + (l.length : Int) < z
  · rw [if_pos h1, if_pos h1]
    refine (oack_no z w h hz h1).mono ?_
    rintro e w' ⟨rfl, rfl⟩
    exact ⟨rfl, by rw [Nat.sub_self]; exact Nx.same h⟩
  · rw [if_neg h1, if_neg h1]
    by_cases h2 : z ≤ a
    · refine (oack_old z w h hz h2).mono ?_
      rintro e w' ⟨rfl, rfl⟩
      exact ⟨rfl, by rw [show (max z (a : Int)).toNat = a by omega, Nat.sub_self]; exact Nx.same h⟩
    · have h3 := oack_new (z - a).toNat w h (by omega) (by omega)
      rw [show (((a + (z - a).toNat : Nat)) : Int) = z by omega, show a + (z - a).toNat = (max z (a : Int)).toNat by omega, show (z - a).toNat = (max z (a : Int)).toNat - a by omega] at h3
      exact h3
theorem rack_all {q : Nat} {v : Value} {g : Option Nat} {a : Nat} {y : Int} {l : List Ms} (z : Int) (w : World) (h : Qx w q v g a y l) (hr : Rw9 a l) (hl : l.length ≤ 1000) (hy : y = (a : Int) + (l.length : Int)) :
    Calls Try.prog 19 #[.pointer (some ⟨q, 0, none⟩), .int .i64 z] w fun e w' => e = .returned (.int .i64 (ackE a l z)) ∧ Nq q g (aN a l z) y (lN a l z) w w' := by
  subst hy
  unfold ackE lN aN
  by_cases h1 : (a : Int) + (l.length : Int) < z
  · rw [if_pos h1, if_pos h1]
    refine (rack_no z w h h1).mono ?_
    rintro e w' ⟨rfl, rfl⟩
    exact ⟨rfl, by rw [Nat.sub_self]; exact Nq.same h⟩
  · rw [if_neg h1, if_neg h1]
    by_cases h2 : z ≤ a
    · refine (rack_old z w h (by omega) h2).mono ?_
      rintro e w' ⟨rfl, rfl⟩
      exact ⟨rfl, by rw [show (max z (a : Int)).toNat = a by omega, Nat.sub_self]; exact Nq.same h⟩
    · have h3 := rack_new z w h hl (by omega) (by omega)
      rw [hr.filter, show (max z (a : Int) - (a : Int)).toNat = (max z (a : Int)).toNat - a by omega] at h3
      have e : Nq q g z ((a : Int) + (l.length : Int)) (l.drop ((max z (a : Int)).toNat - a)) = Nq q g (((max z (a : Int)).toNat : Nat) : Int) ((a : Int) + (l.length : Int)) (l.drop ((max z (a : Int)).toNat - a)) := by rw [show (((max z (a : Int)).toNat : Nat) : Int) = z by omega]
      rw [e] at h3
      exact h3

/-- Both boxes, in blocks that the law has made. -/
structure Bo (w0 w : World) (p : Nat) (v : Value) (g : Option Nat) (a : Nat) (l : List Ms) (q : Nat) (v2 : Value) (g2 : Option Nat) (a2 z2 : Int) (l2 : List Ms) : Prop where
  bx : Bx w p v g a l
  qx : Qx w q v2 g2 a2 z2 l2
  sep : ∀ k, Ft p g k → ¬ Ft q g2 k
  n1 : ∀ k, Ft p g k → w0.heap.size ≤ k
  n2 : ∀ k, Ft q g2 k → w0.heap.size ≤ k
  kp : Kp none' w0 w
section
variable {w0 w w' : World} {p : Nat} {v : Value} {g : Option Nat} {a : Nat} {l : List Ms} {q : Nat} {v2 : Value} {g2 : Option Nat} {a2 z2 : Int} {l2 : List Ms}
theorem Bo.keptN (h : Bo w0 w p v g a l q v2 g2 a2 z2 l2) (hk : Kp none' w w') : Bo w0 w' p v g a l q v2 g2 a2 z2 l2 :=
  ⟨h.bx.keptN hk, h.qx.keptN hk, h.sep, h.n1, h.n2, h.kp.then hk⟩
theorem Bo.goA {a' : Nat} {l' : List Ms} (h : Bo w0 w p v g a l q v2 g2 a2 z2 l2) (hn : Nx p g a' l' w w') : (∃ v' g', Bo w0 w' p v' g' a' l' q v2 g2 a2 z2 l2) ∧ Kp (Ft p g) w w' := by
  obtain ⟨v', g', hb, hk, hg⟩ := hn
  have hf : ∀ k, Ft p g' k → Ft p g k ∨ w.heap.size ≤ k := fun k hk => by
    rcases hk with rfl | hk
    · exact .inl (.inl rfl)
    · exact (hg k hk).imp .inr id
  refine ⟨⟨v', g', hb, h.qx.kept hk (fun k h1 h2 => h.sep k h2 h1), fun k h1 h2 => ?_, fun k h1 => ?_, h.n2, h.kp.trans hk (fun _ _ h => h) (fun k hk h1 => absurd hk (by have := h.n1 k h1; omega))⟩, hk⟩
  · rcases hf k h1 with h3 | h3
    · exact h.sep k h3 h2
    · have := h.qx.ltF k h2
      omega
  · rcases hf k h1 with h3 | h3
    · exact h.n1 k h3
    · have := h.kp.size
      omega
theorem Bo.goB {a' z' : Int} {l' : List Ms} (h : Bo w0 w p v g a l q v2 g2 a2 z2 l2) (hn : Nq q g2 a' z' l' w w') : (∃ v' g', Bo w0 w' p v g a l q v' g' a' z' l') ∧ Kp (Ft q g2) w w' := by
  obtain ⟨v', g', hb, hk, hg⟩ := hn
  have hf : ∀ k, Ft q g' k → Ft q g2 k ∨ w.heap.size ≤ k := fun k hk => by
    rcases hk with rfl | hk
    · exact .inl (.inl rfl)
    · exact (hg k hk).imp .inr id
  refine ⟨⟨v', g', h.bx.kept hk (fun k h1 h2 => h.sep k h1 h2), hb, fun k h1 h2 => ?_, h.n1, fun k h1 => ?_, h.kp.trans hk (fun _ _ h => h) (fun k hk h1 => absurd hk (by have := h.n2 k h1; omega))⟩, hk⟩
  · rcases hf k h2 with h3 | h3
    · exact h.sep k h1 h3
    · have := h.bx.ltF k h1
      omega
  · rcases hf k h1 with h3 | h3
    · exact h.n2 k h3
    · have := h.kp.size
      omega
end
/-- Both are the same box. -/
def Bp (w0 w : World) (p q a : Nat) (l : List Ms) : Prop := ∃ v g v2 g2, Bo w0 w p v g a l q v2 g2 a ((a : Int) + (l.length : Int)) l
section
variable {w0 w w' : World} {p q a : Nat} {l : List Ms}
theorem Bp.keptN (h : Bp w0 w p q a l) (hk : Kp none' w w') : Bp w0 w' p q a l := by
  obtain ⟨v, g, v2, g2, h⟩ := h
  exact ⟨v, g, v2, g2, h.keptN hk⟩
theorem Bp.kp (h : Bp w0 w p q a l) : Kp none' w0 w := by
  obtain ⟨v, g, v2, g2, h⟩ := h
  exact h.kp
/-- Both are the same box, beside a step. -/
def Bz (w0 w : World) (p q a : Nat) (l : List Ms) (b : Nat) (o : Oo) : Prop := ∃ v g v2 g2, Bo w0 w p v g a l q v2 g2 a ((a : Int) + (l.length : Int)) l ∧ Ob w b o ∧ ¬ Ft p g b ∧ ¬ Ft q g2 b
theorem Bp.step (h : Bp w0 w p q a l) (o : Oo) : ∃ W, w.alloc (.cells #[.int .i64 o.kd, .int .i64 o.n, .int .i64 o.k, .int .i64 o.m.q, .int .i64 o.m.f, .int .i64 o.m.t, .int .i64 o.m.v.k, .int .i64 o.m.v.n, .string o.m.v.s] 43) = W ∧ Bz w0 W p q a l w.heap.size o := by
  obtain ⟨v, g, v2, g2, h⟩ := h
  obtain ⟨W, e, hb, hk⟩ := Ob.mk w o
  exact ⟨W, e, v, g, v2, g2, h.keptN hk, hb, fun hf => by have := h.bx.ltF _ hf; omega, fun hf => by have := h.qx.ltF _ hf; omega⟩
theorem Bz.keptN {b : Nat} {o : Oo} (h : Bz w0 w p q a l b o) (hk : Kp none' w w') : Bz w0 w' p q a l b o := by
  obtain ⟨v, g, v2, g2, h, hb, hn, hm⟩ := h
  exact ⟨v, g, v2, g2, h.keptN hk, hb.keptN hk, hn, hm⟩
theorem Bz.bp {b : Nat} {o : Oo} (h : Bz w0 w p q a l b o) : Bp w0 w p q a l := by
  obtain ⟨v, g, v2, g2, h, _⟩ := h
  exact ⟨v, g, v2, g2, h⟩
theorem Bz.ob {b : Nat} {o : Oo} (h : Bz w0 w p q a l b o) : Ob w b o := by
  obtain ⟨v, g, v2, g2, _, h, _⟩ := h
  exact h
/-- The program's box has gone on, the document's one has not. -/
def Bq (w0 w : World) (p q a : Nat) (l : List Ms) (a' : Nat) (l' : List Ms) (b : Nat) (o : Oo) : Prop := ∃ v g v2 g2, Bo w0 w p v g a' l' q v2 g2 a ((a : Int) + (l.length : Int)) l ∧ Ob w b o ∧ ¬ Ft q g2 b
theorem Bq.keptN {a' : Nat} {l' : List Ms} {b : Nat} {o : Oo} (h : Bq w0 w p q a l a' l' b o) (hk : Kp none' w w') : Bq w0 w' p q a l a' l' b o := by
  obtain ⟨v, g, v2, g2, h, hb, hn⟩ := h
  exact ⟨v, g, v2, g2, h.keptN hk, hb.keptN hk, hn⟩
theorem Bq.ob {a' : Nat} {l' : List Ms} {b : Nat} {o : Oo} (h : Bq w0 w p q a l a' l' b o) : Ob w b o := by
  obtain ⟨v, g, v2, g2, _, h, _⟩ := h
  exact h
theorem Bz.ackA {b : Nat} {o : Oo} (h : Bz w0 w p q a l b o) (z : Int) (hz : ir z) :
    Calls Try.prog 18 #[.pointer (some ⟨p, 0, none⟩), .int .i64 z] w fun e w' => e = .returned (.int .i64 (ackE a l z)) ∧ Bq w0 w' p q a l (aN a l z) (lN a l z) b o := by
  obtain ⟨v, g, v2, g2, h, hb, hbn, hbq⟩ := h
  refine (oack_all z w h.bx hz).mono ?_
  rintro e w' ⟨rfl, hn⟩
  obtain ⟨⟨v', g', h'⟩, hk⟩ := h.goA hn
  exact ⟨rfl, v', g', v2, g2, h', hb.kept hk hbn, hbq⟩
theorem Bq.ackB {z : Int} {b : Nat} {o : Oo} (h : Bq w0 w p q a l (aN a l z) (lN a l z) b o) (hr : Rw9 a l) (hs : a + l.length ≤ 1000) :
    Calls Try.prog 19 #[.pointer (some ⟨q, 0, none⟩), .int .i64 z] w fun e w' => e = .returned (.int .i64 (ackE a l z)) ∧ Bp w0 w' p q (aN a l z) (lN a l z) ∧ Ob w' b o := by
  obtain ⟨v, g, v2, g2, h, hb, hbq⟩ := h
  refine (rack_all z w h.qx hr (by omega) rfl).mono ?_
  rintro e w' ⟨rfl, hn⟩
  obtain ⟨⟨v', g', h'⟩, hk⟩ := h.goB hn
  have := aN_sum a l z
  rw [show (a : Int) + (l.length : Int) = (aN a l z : Int) + ((lN a l z).length : Int) by omega] at h'
  exact ⟨rfl, ⟨v, g, v', g', h'⟩, hb.kept hk hbq⟩
/-- What is there behind an Add. -/
def xN (a : Nat) (l : List Ms) (f t : Int) (x : V) : List Ms := if okM (nxM a l f t x) then l ++ [nxM a l f t x] else l
def nN9 (a : Nat) (l : List Ms) (f t : Int) (x : V) : Int := if okM (nxM a l f t x) then (a : Int) + (l.length : Int) + 1 else 0
def eN9 (a : Nat) (l : List Ms) (f t : Int) (x : V) : Int := if okM (nxM a l f t x) then 0 else 4
theorem oadd_all {p : Nat} {v : Value} {g : Option Nat} {a : Nat} {l : List Ms} (f t : Int) (x : V) (w : World) (h : Bx w p v g a l) (hf : ir f) (ht : ir t) (hx : x.wf) (hl : a + l.length < 1000) :
    Calls Try.prog 16 #[.pointer (some ⟨p, 0, none⟩), .int .i64 f, .int .i64 t, x.val] w fun e w' => e = .returned (.tuple #[.int .i64 (nN9 a l f t x), .int .i64 (eN9 a l f t x)]) ∧ Nx p g a (xN a l f t x) w w' := by
  unfold nN9 eN9 xN
  cases hk : okM (nxM a l f t x) with
  | true => exact oadd_ok f t x w h hf ht hx hl hk
  | false =>
    refine (oadd_no f t x w h hf ht hx hl hk).mono ?_
    rintro e w' ⟨rfl, k⟩
    exact ⟨rfl, (Nx.same h).then k⟩
theorem radd_all {q : Nat} {v : Value} {g : Option Nat} {a : Nat} {l : List Ms} (f t : Int) (x : V) (w : World) (h : Qx w q v g a ((a : Int) + (l.length : Int)) l) (hl : a + l.length < 1000) :
    Calls Try.prog 17 #[.pointer (some ⟨q, 0, none⟩), .int .i64 f, .int .i64 t, x.val] w fun e w' => e = .returned (.tuple #[.int .i64 (nN9 a l f t x), .int .i64 (eN9 a l f t x)]) ∧ Nq q g a ((a : Int) + ((xN a l f t x).length : Int)) (xN a l f t x) w w' := by
  unfold nN9 eN9 xN
  cases hk : okM (nxM a l f t x) with
  | true =>
    have h1 := radd_ok f t x w h (by omega) (by omega) hk
    refine h1.mono ?_
    rintro e w' ⟨rfl, hn⟩
    refine ⟨rfl, ?_⟩
    have e : (a : Int) + (((l ++ [nxM a l f t x]).length : Nat) : Int) = (a : Int) + (l.length : Int) + 1 := by rw [List.length_append]; simp; omega
    rw [if_pos rfl, e]
    exact hn
  | false =>
    refine (radd_no f t x w h (by omega) (by omega) hk).mono ?_
    rintro e w' ⟨rfl, k⟩
    exact ⟨rfl, (Nq.same h).then k⟩
theorem xN_len (a : Nat) (l : List Ms) (f t : Int) (x : V) : (xN a l f t x).length ≤ l.length + 1 := by unfold xN; split <;> simp
theorem Bz.addA {b : Nat} {o : Oo} (h : Bz w0 w p q a l b o) (f t : Int) (x : V) (hf : ir f) (ht : ir t) (hx : x.wf) (hl : a + l.length < 1000) :
    Calls Try.prog 16 #[.pointer (some ⟨p, 0, none⟩), .int .i64 f, .int .i64 t, x.val] w fun e w' => e = .returned (.tuple #[.int .i64 (nN9 a l f t x), .int .i64 (eN9 a l f t x)]) ∧ Bq w0 w' p q a l a (xN a l f t x) b o := by
  obtain ⟨v, g, v2, g2, h, hb, hbn, hbq⟩ := h
  refine (oadd_all f t x w h.bx hf ht hx hl).mono ?_
  rintro e w' ⟨rfl, hn⟩
  obtain ⟨⟨v', g', h'⟩, hk⟩ := h.goA hn
  exact ⟨rfl, v', g', v2, g2, h', hb.kept hk hbn, hbq⟩
theorem Bq.addB {f t : Int} {x : V} {b : Nat} {o : Oo} (h : Bq w0 w p q a l a (xN a l f t x) b o) (hl : a + l.length < 1000) :
    Calls Try.prog 17 #[.pointer (some ⟨q, 0, none⟩), .int .i64 f, .int .i64 t, x.val] w fun e w' => e = .returned (.tuple #[.int .i64 (nN9 a l f t x), .int .i64 (eN9 a l f t x)]) ∧ Bp w0 w' p q a (xN a l f t x) := by
  obtain ⟨v, g, v2, g2, h, _, _⟩ := h
  refine (radd_all f t x w h.qx hl).mono ?_
  rintro e w' ⟨rfl, hn⟩
  obtain ⟨⟨v', g', h'⟩, hk⟩ := h.goB hn
  exact ⟨rfl, ⟨v, g, v', g', h'⟩⟩
theorem Bp.fromA (h : Bp w0 w p q a l) (z n : Int) (hz : ir z) (hn : ir n) :
    Calls Try.prog 21 #[.pointer (some ⟨p, 0, none⟩), .int .i64 z, .int .i64 n] w fun e w' => ∃ u, e = .returned u ∧ OwM w' w.heap.size u (frm a l z n) ∧ w.grownBy w' none := by
  obtain ⟨v, g, v2, g2, h⟩ := h
  refine (ofrom_any z n w h.bx hz hn).mono ?_
  rintro e w' ⟨⟨u, rfl, ho⟩, hg⟩
  exact ⟨u, rfl, ho, hg⟩
theorem Bp.fromB (h : Bp w0 w p q a l) (z n : Int) :
    Calls Try.prog 22 #[.pointer (some ⟨q, 0, none⟩), .int .i64 z, .int .i64 n] w fun e w' => ∃ u, e = .returned u ∧ OwM w' w.heap.size u (frm a l z n) ∧ w.grownBy w' none := by
  obtain ⟨v, g, v2, g2, h⟩ := h
  have hs := h.bx.sm
  refine (rfrom_any z n w h.qx (by omega)).mono ?_
  rintro e w' ⟨⟨u, rfl, ho⟩, hg⟩
  rw [h.bx.rw.fil] at ho
  exact ⟨u, rfl, ho, hg⟩
theorem Bp.new {w1 w3 : World} (hk : Kp none' w0 w1) (e : w3 = w1.alloc (.cells #[.int .i64 0, .slice none 0 0] 73)) : Bp w0 (w3.alloc (.cells #[.slice none 0 0, .int .i64 0, .int .i64 0] 41)) w1.heap.size w3.heap.size 0 [] := by
  have hb := Bx.new w1
  rw [← e] at hb
  have k3 : Kp none' w1 w3 := by rw [e]; exact Kp.alloc _ _ _
  have s1 := hk.size
  have s3 : w3.heap.size = w1.heap.size + 1 := by rw [e]; exact World.size_alloc _ _
  have f : ∀ j k, Ft j none k → k = j := fun j k h => h.elim id (fun h => by cases h)
  exact ⟨_, none, _, none, hb.keptN (Kp.alloc _ _ _), Qx.new w3, fun k h1 h2 => by have := f _ _ h1; have := f _ _ h2; omega, fun k h1 => by have := f _ _ h1; omega, fun k h1 => by have := f _ _ h1; omega, (hk.then k3).then (Kp.alloc _ _ _)⟩
theorem Bp.rw9 (h : Bp w0 w p q a l) : Rw9 a l ∧ a + l.length ≤ 1000 := by
  obtain ⟨v, g, v2, g2, h⟩ := h
  exact ⟨h.bx.rw, h.bx.sm⟩
end

end Go.Proofs.Ytamgnpmkmlhadaa
