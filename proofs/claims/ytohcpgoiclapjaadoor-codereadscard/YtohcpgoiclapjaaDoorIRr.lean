/- Contracts, over the turned program: how the reference's reader goes through bytes, number by number; its state told by what is left. Conditions: those that each theorem states. -/
import Derived.Test.YtohcpgoiclapjaaDoorIRi
import Derived.Test.YtohcpgoiclapjaaDoorIRef
import Derived.Test.YtohcpgoiclapjaaDoorRefRead
namespace Go.Proofs.YtohcpgoiclapjaaDoor
open Go.RowKit
set_option linter.unusedVariables false

/-- The reference's reader of s lies at b; what is left is l, the error e. -/
def Rt (w : World) (b : Nat) (s : ByteArray) (l : List UInt8) (e : Int) : Prop := s.size ≤ maxLen ∧ ∃ p, p ≤ s.size ∧ rest s p = mkB l ∧ Rf w b s p e
theorem Rt.len {w : World} {b : Nat} {s : ByteArray} {l : List UInt8} {e : Int} (h : Rt w b s l e) : l.length ≤ s.size := by
  obtain ⟨_, p, hp, hr, _⟩ := h
  have := congrArg ByteArray.size hr
  rw [rest_size, mkB_size] at this
  omega
theorem Rt.ce {w : World} {b : Nat} {s : ByteArray} {l : List UInt8} {e : Int} (h : Rt w b s l e) : w.cell? ⟨b, 2, none⟩ = some (.int .i64 e) := by
  obtain ⟨_, p, _, _, h⟩ := h
  exact h.c2
theorem Rt.lt {w : World} {b : Nat} {s : ByteArray} {l : List UInt8} {e : Int} (h : Rt w b s l e) : b < w.heap.size := by
  obtain ⟨_, p, _, _, h⟩ := h
  exact h.lt
theorem Rt.kept {w w' : World} {b : Nat} {s : ByteArray} {l : List UInt8} {e : Int} {row : Option Nat} (h : Rt w b s l e) (hg : w.grownBy w' row) (hne : some b ≠ row) : Rt w' b s l e := by
  obtain ⟨hs, p, h1, h2, h3⟩ := h
  exact ⟨hs, p, h1, h2, h3.kept hg hne⟩
theorem Rt.new (w : World) (s : ByteArray) (hs : s.size ≤ maxLen) : Rt (w.alloc (.cells #[.string s, .int .i64 0, .int .i64 0] 56)) w.heap.size s s.data.toList 0 := by
  refine ⟨hs, 0, Nat.zero_le _, ?_, Rf.new w s⟩
  rw [rest_self, mkB_self]
theorem rt_post {b : Nat} {s : ByteArray} {l : List UInt8} {e : Int} {w w' : World} (hs : s.size ≤ maxLen) (h : RfPost b s (mkB l) e w w') : Rt w' b s l e ∧ w.grownBy w' (some b) := by
  obtain ⟨p, h1, h2, h3, h4⟩ := h
  exact ⟨⟨hs, p, h1, h2, h3⟩, h4⟩
theorem rt_cons (b : Nat) (s : ByteArray) (c : UInt8) (r : List UInt8) (w : World) (h : Rt w b s (c :: r) 0) :
    Calls Tryd.prog 40 #[.pointer (some ⟨b, 0, none⟩), .int .i64 1] w fun y w' => y = .returned (.int .u64 (c.toNat : Int)) ∧ Rt w' b s r 0 ∧ w.grownBy w' (some b) := by
  obtain ⟨hs, p, hp, hr, hf⟩ := h
  refine (rfrnum_any b s p 0 1 w hf hp hs).mono ?_
  rintro y w' ⟨rfl, hP⟩
  have h1 := raw_app [c] r
  rw [show ((wid 1 : Nat) : Int) = (([c] : List UInt8).length : Int) from rfl, hr, show c :: r = [c] ++ r from rfl] at hP ⊢
  rw [h1.1, mkB_list]
  rw [h1.2.1, h1.2.2] at hP
  exact ⟨by simp [val], rt_post hs hP⟩
theorem rt_short (b : Nat) (s : ByteArray) (k : Int) (l : List UInt8) (w : World) (h : Rt w b s l 0) (hl : l.length < wid k) :
    Calls Tryd.prog 40 #[.pointer (some ⟨b, 0, none⟩), .int .i64 k] w fun y w' => y = .returned (.int .u64 0) ∧ Rt w' b s l 2 ∧ w.grownBy w' (some b) := by
  obtain ⟨hs, p, hp, hr, hf⟩ := h
  have hz := mkB_size l
  refine (rfrnum_any b s p 0 k w hf hp hs).mono ?_
  rintro y w' ⟨rfl, hP⟩
  rw [hr] at hP ⊢
  have e1 : rawR (mkB l) 0 (wid k) = ByteArray.empty := by unfold rawR; rw [if_pos (by omega)]
  have e2 : rawS (mkB l) 0 (wid k) = mkB l := by unfold rawS; rw [if_pos (by omega)]
  have e3 : rawE (mkB l) 0 (wid k) = 2 := by unfold rawE; rw [if_neg (by omega), if_pos (by omega)]
  rw [e2, e3] at hP
  rw [e1]
  exact ⟨rfl, rt_post hs hP⟩
theorem rt_ok (b : Nat) (s : ByteArray) (k : Int) (l : List UInt8) (w : World) (h : Rt w b s l 0) (hl : wid k ≤ l.length) :
    Calls Tryd.prog 40 #[.pointer (some ⟨b, 0, none⟩), .int .i64 k] w fun y w' => y = .returned (.int .u64 (val (l.take (wid k)) : Int)) ∧ Rt w' b s (l.drop (wid k)) 0 ∧ w.grownBy w' (some b) := by
  obtain ⟨hs, p, hp, hr, hf⟩ := h
  refine (rfrnum_any b s p 0 k w hf hp hs).mono ?_
  rintro y w' ⟨rfl, hP⟩
  rw [hr] at hP ⊢
  have h1 := raw_app (l.take (wid k)) (l.drop (wid k))
  rw [List.take_append_drop, List.length_take, Nat.min_eq_left hl] at h1
  rw [h1.1, mkB_list]
  rw [h1.2.1, h1.2.2] at hP
  exact ⟨rfl, rt_post hs hP⟩
theorem rt_err (b : Nat) (s : ByteArray) (k e : Int) (l : List UInt8) (w : World) (h : Rt w b s l e) (he : e ≠ 0) :
    Calls Tryd.prog 40 #[.pointer (some ⟨b, 0, none⟩), .int .i64 k] w fun y w' => y = .returned (.int .u64 0) ∧ Rt w' b s l e ∧ w.grownBy w' (some b) := by
  obtain ⟨hs, p, hp, hr, hf⟩ := h
  refine (rfrnum_any b s p e k w hf hp hs).mono ?_
  rintro y w' ⟨rfl, hP⟩
  rw [hr] at hP ⊢
  have e1 : rawR (mkB l) e (wid k) = ByteArray.empty := by unfold rawR; rw [if_pos (.inl he)]
  have e2 : rawS (mkB l) e (wid k) = mkB l := by unfold rawS; rw [if_pos (.inl he)]
  have e3 : rawE (mkB l) e (wid k) = e := by unfold rawE; rw [if_pos he]
  rw [e2, e3] at hP
  rw [e1]
  exact ⟨rfl, rt_post hs hP⟩
/-- Str of bytes: what it answers, what is left, the error. -/
theorem rt_str (b : Nat) (s : ByteArray) (l : List UInt8) (w : World) (h : Rt w b s l 0) :
    Calls Tryd.prog 41 #[.pointer (some ⟨b, 0, none⟩), .int .i64 10] w fun y w' => y = .returned (.string (strR (mkB l) 0 10)) ∧ w.grownBy w' (some b) ∧ ∃ l', mkB l' = strS (mkB l) 0 10 ∧ Rt w' b s l' (strE (mkB l) 0 10) := by
  obtain ⟨hs, p, hp, hr, hf⟩ := h
  refine (rfrstr_any b s p 0 10 w hf hp hs).mono ?_
  rintro y w' ⟨rfl, hP⟩
  rw [hr] at hP ⊢
  have e : strS (mkB l) 0 10 = mkB (strS (mkB l) 0 10).data.toList := (mkB_self _).symm
  rw [e] at hP
  exact ⟨rfl, (rt_post hs hP).2, _, mkB_self _, (rt_post hs hP).1⟩

/-- Three numbers that a slice bears. -/
def A3 (w : World) (b : Nat) (x y z : Int) : Prop := w.heap[b]? = some (.cells #[.int .i64 x, .int .i64 y, .int .i64 z] 3 (0, 0))
theorem A3.cs {w : World} {b : Nat} {x y z : Int} (h : A3 w b x y z) : w.cell? ⟨b, 0, none⟩ = some (.int .i64 x) ∧ w.cell? ⟨b, 1, none⟩ = some (.int .i64 y) ∧ w.cell? ⟨b, 2, none⟩ = some (.int .i64 z) := by
  refine ⟨?_, ?_, ?_⟩
  · rw [cell_of_row w b 0 _ 3 (0, 0) h]; rfl
  · rw [cell_of_row w b 1 _ 3 (0, 0) h]; rfl
  · rw [cell_of_row w b 2 _ 3 (0, 0) h]; rfl
theorem A3.lt {w : World} {b : Nat} {x y z : Int} (h : A3 w b x y z) : b < w.heap.size := (Array.getElem?_eq_some_iff.1 h).1
theorem A3.fz {w : World} {b : Nat} {x y z : Int} (h : A3 w b x y z) (j : Nat) : w.frozen? ⟨b, j, none⟩ = false := by
  unfold World.frozen?
  rw [show w.heap[(⟨b, j, none⟩ : Addr).block]? = _ from h]
  simp
theorem A3.kept {w w' : World} {b : Nat} {x y z : Int} {row : Option Nat} (h : A3 w b x y z) (hg : w.grownBy w' row) (hne : some b ≠ row) : A3 w' b x y z := by
  unfold A3
  rw [hg.block b h.lt hne]
  exact h
theorem A3.put {w : World} {q : Nat} {x y z : Int} (h : A3 w q x y z) (k : Nat) (hk : k < 3) (v : Int) :
    A3 (w.setCell ⟨q, k, none⟩ (.int .i64 v)) q (if k = 0 then v else x) (if k = 1 then v else y) (if k = 2 then v else z) ∧ w.grownBy (w.setCell ⟨q, k, none⟩ (.int .i64 v)) (some q) ∧ ∃ u, w.cell? ⟨q, k, none⟩ = some u := by
  refine ⟨?_, grown_set _ _ _ _, ?_⟩
  · unfold A3 at h ⊢
    rcases (by omega : k = 0 ∨ k = 1 ∨ k = 2) with rfl | rfl | rfl <;> rw [heap_setCell_same w q _ _ 3 _ h] <;> rfl
  · obtain ⟨c0, c1, c2⟩ := h.cs
    rcases (by omega : k = 0 ∨ k = 1 ∨ k = 2) with rfl | rfl | rfl
    · exact ⟨_, c0⟩
    · exact ⟨_, c1⟩
    · exact ⟨_, c2⟩
/-- The reader and the operands behind j of them. -/
def Rpd (w : World) (b p : Nat) (s : ByteArray) (r : List UInt8) (j : Nat) : Prop :=
  (j ≤ r.length ∧ Rt w b s (r.drop j) 0 ∧ A3 w p (atO r j 0) (atO r j 1) (atO r j 2)) ∨ (r.length < j ∧ ∃ x y z, Rt w b s [] 2 ∧ A3 w p x y z)
theorem rpd_parts {w : World} {b p : Nat} {s : ByteArray} {r : List UInt8} {j : Nat} (h : Rpd w b p s r j) : ∃ l e x y z, Rt w b s l e ∧ A3 w p x y z ∧ ((j ≤ r.length ∧ l = r.drop j ∧ e = 0 ∧ x = atO r j 0 ∧ y = atO r j 1 ∧ z = atO r j 2) ∨ (r.length < j ∧ l = [] ∧ e = 2)) := by
  rcases h with ⟨h1, h2, h3⟩ | ⟨h1, x, y, z, h2, h3⟩
  · exact ⟨_, _, _, _, _, h2, h3, .inl ⟨h1, rfl, rfl, rfl, rfl, rfl⟩⟩
  · exact ⟨_, _, _, _, _, h2, h3, .inr ⟨h1, rfl, rfl⟩⟩
theorem rpd_num {w : World} {b p : Nat} {s : ByteArray} {r : List UInt8} {j : Nat} (h : Rpd w b p s r j) (hj : j < 3) (hb : b ≠ p) :
    Calls Tryd.prog 40 #[.pointer (some ⟨b, 0, none⟩), .int .i64 1] w fun y w' => ∃ n : UInt8, y = .returned (.int .u64 (n.toNat : Int)) ∧ w.grownBy w' (some b) ∧ w'.frozen? ⟨p, j, none⟩ = false ∧ (∃ u, w'.cell? ⟨p, j, none⟩ = some u) ∧ Rpd (w'.setCell ⟨p, j, none⟩ (.int .i64 (n.toNat : Int))) b p s r (j + 1) := by
  have hbp : (some p : Option Nat) ≠ some b := by intro hh; exact hb (Option.some.inj hh).symm
  have hpb : (some b : Option Nat) ≠ some p := by intro hh; exact hb (Option.some.inj hh)
  rcases h with ⟨h1, h2, h3⟩ | ⟨h1, x, y, z, h2, h3⟩
  · by_cases h4 : j < r.length
    · obtain ⟨c, hc, hd⟩ := drop_at r j h4
      rw [hd] at h2
      refine (rt_cons b s c _ w h2).mono ?_
      rintro y w' ⟨rfl, hr', hg'⟩
      have hA := h3.kept hg' hbp
      have hP := hA.put j hj (c.toNat : Int)
      refine ⟨c, rfl, hg', hA.fz j, hP.2.2, .inl ⟨by omega, hr'.kept hP.2.1 hpb, ?_⟩⟩
      rw [atO_step r c j 0 hc, atO_step r c j 1 hc, atO_step r c j 2 hc]
      exact hP.1
    · have hd : r.drop j = [] := List.drop_eq_nil_of_le (by omega)
      rw [hd] at h2
      refine (rt_short b s 1 [] w h2 (by decide)).mono ?_
      rintro y w' ⟨rfl, hr', hg'⟩
      have hA := h3.kept hg' hbp
      have hP := hA.put j hj 0
      exact ⟨0, rfl, hg', hA.fz j, hP.2.2, .inr ⟨by omega, _, _, _, hr'.kept hP.2.1 hpb, hP.1⟩⟩
  · refine (rt_err b s 1 2 [] w h2 (by decide)).mono ?_
    rintro y w' ⟨rfl, hr', hg'⟩
    have hA := h3.kept hg' hbp
    have hP := hA.put j hj 0
    exact ⟨0, rfl, hg', hA.fz j, hP.2.2, .inr ⟨by omega, _, _, _, hr'.kept hP.2.1 hpb, hP.1⟩⟩
theorem results_ib2 {fn : Func} {p u : Tmp} (h : fn.results = #[.cell p 42, .tmp u]) (tmps : Array Value) (g : Nat) (W : World) (x : In) (er : Value) (hp : tmps.getD p undef = .pointer (some ⟨g, 0, none⟩)) (hu : tmps.getD u undef = er) (hV : Ib W g x) :
    (results fn tmps).run Tryd.prog W = .ok (.tuple #[x.val, er]) W := by
  rw [results_cell_tmp h, hp, hu]
  simp [asAddr, Result.andThen, load_ib hV]
/-- What the reference's read tells. -/
def RToldI (w' : World) (b : Nat) (s : ByteArray) (y : Except Int (In × List UInt8)) (x : In) (er : Int) : Prop :=
  match y with
  | .ok (x', q) => x = x' ∧ er = 0 ∧ Rt w' b s q 0
  | .error e => er = e

end Go.Proofs.YtohcpgoiclapjaaDoor
