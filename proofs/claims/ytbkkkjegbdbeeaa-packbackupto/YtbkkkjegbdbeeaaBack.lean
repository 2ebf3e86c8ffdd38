/- PackBack, what is read back: over the turned program a reader that stands ahead of a written number, text or bytes reads it and stands behind it. Conditions: those that each theorem states. -/
import Derived.Test.YtbkkkjegbdbeeaaReads
import Derived.Test.YtbkkkjegbdbeeaaMath
namespace Go.Proofs.Ytbkkkjegbdbeeaa.packBack
open Go.RowKit
open packReads (Th Lies)
set_option linter.unusedVariables false

/-- Bytes as a string. -/
def mkB (l : List UInt8) : ByteArray := ⟨l.toArray⟩
theorem mkB_list (l : List UInt8) : (mkB l).data.toList = l := rfl
theorem mkB_size (l : List UInt8) : (mkB l).size = l.length := by show l.toArray.size = _; simp
theorem mkB_ext (l : List UInt8) (a b : Nat) : (mkB l).extract a b = mkB ((l.drop a).take (b - a)) := by
  apply ByteArray.ext
  apply Array.ext'
  rw [ext_list, mkB_list, mkB_list]
theorem mkB_self (s : ByteArray) : mkB s.data.toList = s := by cases s; rfl

theorem raw_app (a r : List UInt8) : rawR (mkB (a ++ r)) 0 (a.length : Int) = mkB a ∧ rawS (mkB (a ++ r)) 0 (a.length : Int) = mkB r ∧ rawE (mkB (a ++ r)) 0 (a.length : Int) = 0 := by
  have hz := mkB_size (a ++ r)
  rw [List.length_append] at hz
  refine ⟨?_, ?_, ?_⟩
  · unfold rawR
    rw [if_neg (by omega), Int.toNat_natCast, mkB_ext]
    simp
  · unfold rawS
    rw [if_neg (by omega), Int.toNat_natCast, mkB_ext]
    congr 1
    rw [hz]
    simp
  · unfold rawE
    rw [if_neg (by omega), if_neg (by omega)]
theorem str_app (l r : List UInt8) : strR (mkB (strB l ++ r)) 0 255 = mkB (l.take 255) ∧ strS (mkB (strB l ++ r)) 0 255 = mkB r ∧ strE (mkB (strB l ++ r)) 0 255 = 0 := by
  have hz := mkB_size (strB l ++ r)
  have hb : (strB l).length = 1 + min l.length 255 := by simp [strB]; omega
  rw [List.length_append, hb] at hz
  have hN : strN (mkB (strB l ++ r)) = min l.length 255 := by
    unfold strN
    rw [mkB_list]
    simp [strB]
    omega
  have h0 : strOk (mkB (strB l ++ r)) 0 255 = true := by unfold strOk; rw [hN, hz, decide_eq_true_iff]; omega
  refine ⟨?_, ?_, ?_⟩
  · simp only [strR, h0, if_true]
    rw [hN, mkB_ext]
    congr 1
    simp only [strB, List.cons_append, List.drop_succ_cons, List.drop_zero]
    rw [show 1 + min l.length 255 - 1 = (l.take 255).length by simp; omega]
    exact List.take_left
  · simp only [strS, h0, if_true]
    rw [hN, mkB_ext, ← hb, List.drop_left]
    congr 1
    exact List.take_of_length_le (by omega)
  · unfold strE
    rw [hN]
    rw [if_neg (by omega), if_neg (by omega), if_neg (by omega), if_neg (by omega)]

theorem back_num (b n : Nat) (k : Int) (r : List UInt8) (w : World) (h : Rd w b (mkB (be n (wid k) ++ r)) 0) (hs : (be n (wid k) ++ r).length ≤ maxLen) :
    Calls Try.prog 18 #[.pointer (some ⟨b, 0, none⟩), .int .i64 k] w fun y w' => y = .returned (.int .u64 ((n % 2 ^ (8 * wid k) : Nat) : Int)) ∧ Rd w' b (mkB r) 0 ∧ w.grownBy w' (some b) := by
  refine (rnum_any b _ 0 k w h (by rw [mkB_size]; exact hs)).mono ?_
  rintro y w' ⟨rfl, hr, hg⟩
  have h1 := raw_app (be n (wid k)) r
  rw [be_len] at h1
  rw [h1.1, mkB_list, val_be]
  rw [h1.2.1, h1.2.2] at hr
  exact ⟨rfl, hr, hg⟩
theorem back_str (b : Nat) (l r : List UInt8) (w : World) (h : Rd w b (mkB (strB l ++ r)) 0) (hs : (strB l ++ r).length ≤ maxLen) :
    Calls Try.prog 20 #[.pointer (some ⟨b, 0, none⟩), .int .i64 255] w fun y w' => y = .returned (.string (mkB (l.take 255))) ∧ Rd w' b (mkB r) 0 ∧ w.grownBy w' (some b) := by
  refine (rstr_any b _ 0 255 w h (by rw [mkB_size]; exact hs)).mono ?_
  rintro y w' ⟨rfl, hr, hg⟩
  have h1 := str_app l r
  rw [h1.1]
  rw [h1.2.1, h1.2.2] at hr
  exact ⟨rfl, hr, hg⟩
theorem back_raw (b : Nat) (l r : List UInt8) (w : World) (h : Rd w b (mkB (l ++ r)) 0) (hs : (l ++ r).length ≤ maxLen) :
    Calls Try.prog 22 #[.pointer (some ⟨b, 0, none⟩), .int .i64 (l.length : Int)] w fun y w' => y = .returned (.string (mkB l)) ∧ Rd w' b (mkB r) 0 ∧ w.grownBy w' (some b) := by
  refine (raw_any b _ 0 _ w h (by rw [mkB_size]; exact hs)).mono ?_
  rintro y w' ⟨rfl, hr, hg⟩
  have h1 := raw_app l r
  rw [h1.1]
  rw [h1.2.1, h1.2.2] at hr
  exact ⟨rfl, hr, hg⟩

/-- A thing's bytes. -/
def enc1 (x : Th) : List UInt8 := if kindOf x.t = 0 then be x.n (wid x.k) else if kindOf x.t = 1 then strB x.s.data.toList else x.s.data.toList
/-- The bytes of the first j things; of the m things from j on. -/
def encTo (th : Nat → Th) : Nat → List UInt8
  | 0 => []
  | j + 1 => encTo th j ++ enc1 (th j)
def encFrom (th : Nat → Th) (len : Nat) : Nat → List UInt8
  | 0 => []
  | m + 1 => enc1 (th (len - (m + 1))) ++ encFrom th len m
theorem enc_split (th : Nat → Th) (len : Nat) : ∀ m, m ≤ len → encTo th (len - m) ++ encFrom th len m = encTo th len := by
  intro m
  induction m with
  | zero => intro _; simp [encFrom]
  | succ m ih =>
    intro h
    have h2 := ih (by omega)
    rw [show len - m = (len - (m + 1)) + 1 by omega] at h2
    simp only [encTo, encFrom] at h2 ⊢
    rw [← h2, List.append_assoc]
theorem enc_le (th : Nat → Th) (len : Nat) : ∀ j, j ≤ len → (encTo th j).length ≤ (encTo th len).length := by
  intro j hj
  have h := enc_split th len (len - j) (by omega)
  rw [show len - (len - j) = j by omega] at h
  rw [← h, List.length_append]
  omega

end Go.Proofs.Ytbkkkjegbdbeeaa.packBack
