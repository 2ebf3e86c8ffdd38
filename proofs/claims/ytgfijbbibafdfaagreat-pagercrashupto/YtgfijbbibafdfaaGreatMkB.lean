/- What a reader of pack reads that stands ahead of given bytes: a written number, text or bytes, and where it stands then. Conditions: those that each theorem states. -/
import Derived.Test.YtgfijbbibafdfaaGreatMath
namespace Go.Proofs.YtgfijbbibafdfaaGreat
open Go.RowKit
set_option linter.unusedVariables false

/-- Bytes as a string. -/
def mkB (l : List UInt8) : ByteArray := ⟨l.toArray⟩
theorem mkB_list (l : List UInt8) : (mkB l).data.toList = l := rfl
theorem mkB_size (l : List UInt8) : (mkB l).size = l.length := by show l.toArray.size = _; simp
theorem mkB_ext (l : List UInt8) (a b : Nat) : (mkB l).extract a b = mkB ((l.drop a).take (b - a)) := by
  apply ByteArray.ext
  apply Array.ext'
  rw [ext_list, mkB_list, mkB_list]
theorem mkB_self (s : ByteArray) : mkB s.data.toList = s := by cases s; rfl

theorem raw_app (a r : List UInt8) : rawR (mkB (a ++ r)) 0 (a.length : Int) = mkB a ∧ rawS (mkB (a ++ r)) 0 (a.length : Int) = mkB r ∧ rawE (mkB (a ++ r)) 0 (a.length : Int) = 0 := by
  have hz := mkB_size (a ++ r)
  rw [List.length_append] at hz
  refine ⟨?_, ?_, ?_⟩
  · unfold rawR
    rw [if_neg (by omega), Int.toNat_natCast, mkB_ext]
    simp
  · unfold rawS
    rw [if_neg (by omega), Int.toNat_natCast, mkB_ext]
    congr 1
    rw [hz]
    simp
  · unfold rawE
    rw [if_neg (by omega), if_neg (by omega)]
theorem str_app (l r : List UInt8) : strR (mkB (strB l ++ r)) 0 255 = mkB (l.take 255) ∧ strS (mkB (strB l ++ r)) 0 255 = mkB r ∧ strE (mkB (strB l ++ r)) 0 255 = 0 := by
  have hz := mkB_size (strB l ++ r)
  have hb : (strB l).length = 1 + min l.length 255 := by simp [strB]; omega
  rw [List.length_append, hb] at hz
  have hN : strN (mkB (strB l ++ r)) = min l.length 255 := by
    unfold strN
    rw [mkB_list]
    simp [strB]
    omega
  have h0 : strOk (mkB (strB l ++ r)) 0 255 = true := by unfold strOk; rw [hN, hz, decide_eq_true_iff]; omega
  refine ⟨?_, ?_, ?_⟩
  · simp only [strR, h0, if_true]
    rw [hN, mkB_ext]
    congr 1
    simp only [strB, List.cons_append, List.drop_succ_cons, List.drop_zero]
    rw [show 1 + min l.length 255 - 1 = (l.take 255).length by simp; omega]
    exact List.take_left
  · simp only [strS, h0, if_true]
    rw [hN, mkB_ext, ← hb, List.drop_left]
    congr 1
    exact List.take_of_length_le (by omega)
  · unfold strE
    rw [hN]
    rw [if_neg (by omega), if_neg (by omega), if_neg (by omega), if_neg (by omega)]

theorem back_num (b n : Nat) (k : Int) (r : List UInt8) (w : World) (h : Rd w b (mkB (be n (wid k) ++ r)) 0) (hs : (be n (wid k) ++ r).length ≤ maxLen) :
    Calls Tryz.prog 62 #[.pointer (some ⟨b, 0, none⟩), .int .i64 k] w fun y w' => y = .returned (.int .u64 ((n % 2 ^ (8 * wid k) : Nat) : Int)) ∧ Rd w' b (mkB r) 0 ∧ w.grownBy w' (some b) := by
  refine (rnum_any b _ 0 k w h (by rw [mkB_size]; exact hs)).mono ?_
  rintro y w' ⟨rfl, hr, hg⟩
  have h1 := raw_app (be n (wid k)) r
  rw [be_len] at h1
  rw [h1.1, mkB_list, val_be]
  rw [h1.2.1, h1.2.2] at hr
  exact ⟨rfl, hr, hg⟩
theorem back_raw (b : Nat) (l r : List UInt8) (w : World) (h : Rd w b (mkB (l ++ r)) 0) (hs : (l ++ r).length ≤ maxLen) :
    Calls Tryz.prog 70 #[.pointer (some ⟨b, 0, none⟩), .int .i64 (l.length : Int)] w fun y w' => y = .returned (.string (mkB l)) ∧ Rd w' b (mkB r) 0 ∧ w.grownBy w' (some b) := by
  refine (raw_any b _ 0 _ w h (by rw [mkB_size]; exact hs)).mono ?_
  rintro y w' ⟨rfl, hr, hg⟩
  have h1 := raw_app l r
  rw [h1.1]
  rw [h1.2.1, h1.2.2] at hr
  exact ⟨rfl, hr, hg⟩

theorem rnum1_cons (b : Nat) (c : UInt8) (r : List UInt8) (w : World) (h : Rd w b (mkB (c :: r)) 0) (hs : (c :: r).length ≤ maxLen) :
    Calls Tryz.prog 62 #[.pointer (some ⟨b, 0, none⟩), .int .i64 1] w fun y w' => y = .returned (.int .u64 (c.toNat : Int)) ∧ Rd w' b (mkB r) 0 ∧ w.grownBy w' (some b) := by
  refine (rnum_any b _ 0 1 w h (by rw [mkB_size]; exact hs)).mono ?_
  rintro y w' ⟨rfl, hr, hg⟩
  have h1 := raw_app [c] r
  rw [show ((wid 1 : Nat) : Int) = (([c] : List UInt8).length : Int) from rfl] at hr ⊢
  rw [show c :: r = [c] ++ r from rfl] at hr ⊢
  rw [h1.1, mkB_list]
  rw [h1.2.1, h1.2.2] at hr
  exact ⟨by simp [val], hr, hg⟩
theorem rnum_short (b : Nat) (k : Int) (l : List UInt8) (w : World) (h : Rd w b (mkB l) 0) (hl : l.length < wid k) :
    Calls Tryz.prog 62 #[.pointer (some ⟨b, 0, none⟩), .int .i64 k] w fun y w' => y = .returned (.int .u64 0) ∧ Rd w' b (mkB l) 2 ∧ w.grownBy w' (some b) := by
  have hz := mkB_size l
  have h8 := wid_hi k
  refine (rnum_any b _ 0 k w h (by rw [mkB_size]; unfold maxLen; omega)).mono ?_
  rintro y w' ⟨rfl, hr, hg⟩
  have e1 : rawR (mkB l) 0 (wid k) = ByteArray.empty := by unfold rawR; rw [if_pos (by omega)]
  have e2 : rawS (mkB l) 0 (wid k) = mkB l := by unfold rawS; rw [if_pos (by omega)]
  have e3 : rawE (mkB l) 0 (wid k) = 2 := by unfold rawE; rw [if_neg (by omega), if_pos (by omega)]
  rw [e2, e3] at hr
  rw [e1]
  exact ⟨rfl, hr, hg⟩
theorem rnum_ok (b : Nat) (k : Int) (l : List UInt8) (w : World) (h : Rd w b (mkB l) 0) (hl : wid k ≤ l.length) (hs : l.length ≤ maxLen) :
    Calls Tryz.prog 62 #[.pointer (some ⟨b, 0, none⟩), .int .i64 k] w fun y w' => y = .returned (.int .u64 (val (l.take (wid k)) : Int)) ∧ Rd w' b (mkB (l.drop (wid k))) 0 ∧ w.grownBy w' (some b) := by
  refine (rnum_any b _ 0 k w h (by rw [mkB_size]; exact hs)).mono ?_
  rintro y w' ⟨rfl, hr, hg⟩
  have h1 := raw_app (l.take (wid k)) (l.drop (wid k))
  rw [List.take_append_drop, List.length_take, Nat.min_eq_left hl] at h1
  rw [h1.1, mkB_list]
  rw [h1.2.1, h1.2.2] at hr
  exact ⟨rfl, hr, hg⟩

end Go.Proofs.YtgfijbbibafdfaaGreat
