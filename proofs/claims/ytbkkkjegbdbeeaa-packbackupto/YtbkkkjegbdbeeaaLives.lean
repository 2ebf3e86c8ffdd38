/- Contract, over the turned program: the law's own look 'lives' returns true in every world and turns nothing that was there. No conditions. -/
import Derived.Test.YtbkkkjegbdbeeaaRead
namespace Go.Proofs.Ytbkkkjegbdbeeaa
open Go.RowKit
set_option linter.unusedVariables false

theorem be258 : be 258 (wid 2) = [1, 2] := by decide +kernel
theorem strab : strB (ByteArray.mk #[97, 98]).data.toList = [2, 97, 98] := by decide +kernel
theorem conv_nil (w w' : World) (v' : Value) (l k : List UInt8) (h : Own 5 w' w.heap.size v' ([] ++ l)) (hl : l = k) : (convert 22 9 v').run Try.prog w' = .ok (.string ⟨k.toArray⟩) w' := by
  subst hl
  exact run_convert_own w' 22 9 5 Try.underlying22 Try.underlying5 Try.underlying9 h

def s0 : ByteArray := ⟨#[1, 2, 2, 97, 98]⟩
theorem s0_raw : rawR s0 0 (wid 2) = ⟨#[1, 2]⟩ ∧ rawS s0 0 (wid 2) = ⟨#[2, 97, 98]⟩ ∧ rawE s0 0 (wid 2) = 0 := by decide +kernel
theorem s1_str : strR ⟨#[2, 97, 98]⟩ 0 9 = ⟨#[97, 98]⟩ ∧ strS ⟨#[2, 97, 98]⟩ 0 9 = ByteArray.empty ∧ strE ⟨#[2, 97, 98]⟩ 0 9 = 0 := by decide +kernel

theorem num_nil (n : Nat) (k : Int) (w : World) (hn : (n : Int) < 18446744073709551616) :
    Calls Try.prog 10 #[.slice none 0 0, .int .u64 n, .int .i64 k] w fun e w' => ∃ v', e = .returned v' ∧ Own 5 w' w.heap.size v' (be n (wid k)) ∧ w.grownBy w' none := by
  refine (num_any (.slice none 0 0) [] n k w.heap.size w hn (Own.nil 5 w _) (Nat.le_refl _) (by simp)).mono ?_
  rintro e w' ⟨v', rfl, ho, hf⟩
  exact ⟨v', rfl, ho, hf.1⟩
theorem str_nil (s : ByteArray) (w : World) (hs : s.size ≤ maxLen) :
    Calls Try.prog 11 #[.slice none 0 0, .string s] w fun e w' => ∃ v', e = .returned v' ∧ Own 5 w' w.heap.size v' (strB s.data.toList) ∧ w.grownBy w' none := by
  refine (str_any (.slice none 0 0) [] s w.heap.size w hs (Own.nil 5 w _) (Nat.le_refl _) (by simp)).mono ?_
  rintro e w' ⟨v', rfl, ho, hf⟩
  exact ⟨v', rfl, ho, hf.1⟩
theorem num258 (w : World) : Calls Try.prog 10 #[.slice none 0 0, .int .u64 258, .int .i64 2] w fun e w' => ∃ v', e = .returned v' ∧ (convert 22 9 v').run Try.prog w' = .ok (.string ⟨#[1, 2]⟩) w' ∧ w.grownBy w' none := by
  refine (num_nil 258 2 w (by decide)).mono ?_
  rintro e w' ⟨v', rfl, ho, hf⟩
  rw [be258] at ho
  exact ⟨v', rfl, run_convert_own w' 22 9 5 Try.underlying22 Try.underlying5 Try.underlying9 ho, hf⟩
theorem strAb (w : World) : Calls Try.prog 11 #[.slice none 0 0, .string ⟨#[97, 98]⟩] w fun e w' => ∃ v', e = .returned v' ∧ (convert 22 9 v').run Try.prog w' = .ok (.string ⟨#[2, 97, 98]⟩) w' ∧ w.grownBy w' none := by
  refine (str_nil ⟨#[97, 98]⟩ w (by decide)).mono ?_
  rintro e w' ⟨v', rfl, ho, hf⟩
  rw [strab] at ho
  exact ⟨v', rfl, run_convert_own w' 22 9 5 Try.underlying22 Try.underlying5 Try.underlying9 ho, hf⟩
theorem rnum0 (b : Nat) (w : World) (h : Rd w b ⟨#[1, 2, 2, 97, 98]⟩ 0) : Calls Try.prog 18 #[.pointer (some ⟨b, 0, none⟩), .int .i64 2] w fun y w' => y = .returned (.int .u64 258) ∧ Rd w' b ⟨#[2, 97, 98]⟩ 0 ∧ w.grownBy w' (some b) := by
  refine (rnum_any b _ 0 2 w h (by decide)).mono ?_
  rintro e w' ⟨rfl, hr, hg⟩
  have h1 := s0_raw
  unfold s0 at h1
  rw [h1.1]
  rw [h1.2.1, h1.2.2] at hr
  exact ⟨congrArg (fun n : Nat => Ending.returned (Value.int .u64 (n : Int))) (show val [1, 2] = 258 by decide +kernel), hr, hg⟩
theorem rstr0 (b : Nat) (w : World) (h : Rd w b ⟨#[2, 97, 98]⟩ 0) : Calls Try.prog 20 #[.pointer (some ⟨b, 0, none⟩), .int .i64 9] w fun y w' => y = .returned (.string ⟨#[97, 98]⟩) ∧ Rd w' b ByteArray.empty 0 ∧ w.grownBy w' (some b) := by
  refine (rstr_any b _ 0 9 w h (by decide)).mono ?_
  rintro e w' ⟨rfl, hr, hg⟩
  have h1 := s1_str
  rw [h1.1]
  rw [h1.2.1, h1.2.2] at hr
  exact ⟨rfl, hr, hg⟩
theorem done0 (b : Nat) (w : World) (h : Rd w b ByteArray.empty 0) : Calls Try.prog 27 #[.pointer (some ⟨b, 0, none⟩)] w fun x w' => x = .returned (.int .i64 0) ∧ w = w' := by
  refine (done_any b _ 0 w h).mono ?_
  rintro e w' ⟨rfl, hr⟩
  exact ⟨congrArg (fun n : Int => Ending.returned (Value.int .i64 n)) (show doneE ByteArray.empty 0 = 0 by decide +kernel), hr.symm⟩
theorem grown_below {w w' : World} {B : Nat} {row : Option Nat} (h : w.grownBy w' row) (hB : B ≤ w.heap.size) (hr : ∀ k, row = some k → B ≤ k) : Below B w w' := (Below.refl B w).grown h hB hr

set_option maxRecDepth 100000 in
set_option maxHeartbeats 400000 in
theorem lives_any (w : World) : Calls Try.prog 9 #[] w fun e w' => e = .returned (.bool true) ∧ Below w.heap.size w w' := by
  have H0 : Rd (w.alloc (.cells #[.string ⟨#[1, 2, 2, 97, 98]⟩, .int .i64 0] 52)) w.heap.size ⟨#[1, 2, 2, 97, 98]⟩ 0 := Rd.new _ _ _
  have hb0 : Below w.heap.size w (w.alloc (.cells #[.string ⟨#[1, 2, 2, 97, 98]⟩, .int .i64 0] 52)) := (Below.refl _ _).alloc (Nat.le_refl _) _
  have hz0 : w.heap.size ≤ (w.alloc (.cells #[.string ⟨#[1, 2, 2, 97, 98]⟩, .int .i64 0] 52)).heap.size := by simp
  go_enter Try.func9, Try.ntmps9
  go_wp2_with (go_at_call 16; refine (from_any _ _).mono ?_; rintro e w' ⟨rfl, rfl⟩)
  generalize (w.alloc (.cells #[.string ⟨#[1, 2, 2, 97, 98]⟩, .int .i64 0] 52)) = w0 at *
  refine (num258 _).mono ?_
  rintro e w1 ⟨v1, rfl, hc1, hg1⟩
  have H1 := H0.kept hg1 (by simp)
  have hb1 := hb0.grown hg1 hz0 (by simp)
  have hz1 := Nat.le_trans hz0 hg1.size
  clear H0 hb0 hz0 hg1
  go_wp2_with fail
  refine (strAb _).mono ?_
  rintro e w2 ⟨v2, rfl, hc2, hg2⟩
  have H2 := H1.kept hg2 (by simp)
  have hb2 := hb1.grown hg2 hz1 (by simp)
  have hz2 := Nat.le_trans hz1 hg2.size
  clear H1 hb1 hz1 hg2 hc1
  go_wp2_with fail
  refine (rnum0 _ _ H2).mono ?_
  rintro e w3 ⟨rfl, H3, hg3⟩
  have hb3 := hb2.grown hg3 hz2 (by simp)
  have hz3 := Nat.le_trans hz2 hg3.size
  clear H2 hb2 hz2 hg3 hc2
  go_wp2_with fail
  refine (rstr0 _ _ H3).mono ?_
  rintro e w4 ⟨rfl, H4, hg4⟩
  have hb4 := hb3.grown hg4 hz3 (by simp)
  clear H3 hb3 hz3 hg4
  go_wp2_with fail
  refine (done0 _ _ H4).mono ?_
  rintro e w5 ⟨rfl, rfl⟩
  go_wp2
  go_ret
  exact ⟨rfl, hb4⟩

end Go.Proofs.Ytbkkkjegbdbeeaa
