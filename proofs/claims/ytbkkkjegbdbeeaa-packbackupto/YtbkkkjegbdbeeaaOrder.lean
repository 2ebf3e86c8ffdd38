/- PackOrder, the walk: over the turned program the law PackOrder returns true for all numbers below 2^64 and every k, and turns nothing that was there. -/
import Derived.Test.YtbkkkjegbdbeeaaLives
import Derived.Test.YtbkkkjegbdbeeaaMath
import Derived.WalkLawsBesides
import Derived.Deep.CutRange
import Derived.Deep.RegionWith
namespace Go.Proofs.Ytbkkkjegbdbeeaa.packOrder
open Go.RowKit
set_option linter.unusedVariables false

/-- pack.Num(nil, n, k), and its string in every later world that keeps what was there. -/
theorem num_conv (n : Nat) (k : Int) (w : World) (hn : (n : Int) < 18446744073709551616) :
    Calls Try.prog 10 #[.slice none 0 0, .int .u64 n, .int .i64 k] w fun e w' => ∃ v', e = .returned v' ∧ (∀ W : World, w'.grownBy W none → (convert 22 9 v').run Try.prog W = .ok (.string ⟨(be n (wid k)).toArray⟩) W) ∧ w'.grownBy w' none ∧ w.grownBy w' none := by
  refine (num_nil n k w hn).mono ?_
  rintro e w' ⟨v', rfl, ho, hg⟩
  exact ⟨v', rfl, fun W hW => run_convert_own W 22 9 5 Try.underlying22 Try.underlying5 Try.underlying9 (ho.kept hW (by cases h : v'.ownBlock <;> simp)), World.grownBy.refl _ _, hg⟩

theorem below2 {w w1 w2 w3 : World} (hb : Below w.heap.size w w1) (h2 : w1.drew.grownBy w2 none) (h3 : w2.grownBy w3 none) : Below w.heap.size w w3 :=
  ((hb.drew).grown h2 (by simpa using hb.size) (by simp)).grown h3 (Nat.le_trans (by simpa using hb.size) h2.size) (by simp)

set_option maxRecDepth 100000 in
set_option maxHeartbeats 1000000 in
theorem walk (x y : Nat) (k : Int) (w : World) (hx : (x : Int) < 18446744073709551616) (hy : (y : Int) < 18446744073709551616) :
    Calls Try.prog 6 #[.int .u64 x, .int .u64 y, .int .i64 k] w fun e w' => e = .returned (.bool true) ∧ Below w.heap.size w w' := by
  have HX : Hid ((x : Int) < 18446744073709551616) := hx
  have HY : Hid ((y : Int) < 18446744073709551616) := hy
  clear hx hy
  go_enter Try.func6, Try.ntmps6
  go_upto_region 3 with (go_at_call 9; refine (lives_any _).mono ?_; rintro e w1 ⟨rfl, hb⟩)
  go_cut [7, 8] from 11 to 18 (fun a b wx => a = .string ⟨(be x (wid k)).toArray⟩ ∧ b = .string ⟨(be y (wid k)).toArray⟩ ∧ Below w.heap.size w wx)
  case first =>
    go_region_with (first | (go_at_call_of 10 (Value.int .u64 (x : Int)); refine (num_conv x k _ HX.out).mono ?_; rintro e w2 ⟨v2, rfl, hc2, hr2, hg2⟩) | (go_at_call_of 10 (Value.int .u64 (y : Int)); refine (num_conv y k _ HY.out).mono ?_; rintro e w3 ⟨v3, rfl, hc3, hr3, hg3⟩))
    all_goals (have hB := below2 hb hg2 hg3; go_wp2_with fail; go_meet; exact ⟨rfl, rfl, hB⟩)
  case rest =>
  obtain ⟨rfl, rfl, hb2⟩ := hcut
  clear hb
  have hl : (be x (wid k)).length = (be y (wid k)).length := by rw [be_len, be_len]
  have HL : Hid (x < 2 ^ (8 * wid k) → y < 2 ^ (8 * wid k) → Op.bytesLess (be x (wid k)) (be y (wid k)) = decide ((x : Int) < (y : Int)) ∧ (be x (wid k) == be y (wid k)) = ((x : Int) == (y : Int))) := by
    intro h1 h2
    rw [less_be, eq_be, Nat.mod_eq_of_lt h1, Nat.mod_eq_of_lt h2]
    refine ⟨by rw [Bool.eq_iff_iff]; simp, by rw [Bool.eq_iff_iff]; simp; omega⟩
  generalize be x (wid k) = lx at *
  generalize be y (wid k) = ly at *
  by_cases hfx : fitsB x k = true
  · by_cases hfy : fitsB y k = true
    · obtain ⟨h1, h2⟩ := HL.out (of_decide_eq_true hfx) (of_decide_eq_true hfy)
      go_wp2_with (first | (go_at_call_of 14 (Value.int .u64 (x : Int)); refine (fits_any x k _ HX.out).mono ?_; rintro e w2 ⟨rfl, rfl⟩) | (go_at_call_of 14 (Value.int .u64 (y : Int)); refine (fits_any y k _ HY.out).mono ?_; rintro e w3 ⟨rfl, rfl⟩))
      go_ret
      exact ⟨rfl, hb2⟩
    · have hfy' : fitsB y k = false := by simpa using hfy
      clear hfy
      go_wp2_with (first | (go_at_call_of 14 (Value.int .u64 (x : Int)); refine (fits_any x k _ HX.out).mono ?_; rintro e w2 ⟨rfl, rfl⟩) | (go_at_call_of 14 (Value.int .u64 (y : Int)); refine (fits_any y k _ HY.out).mono ?_; rintro e w3 ⟨rfl, rfl⟩))
      go_ret
      exact ⟨rfl, hb2⟩
  · have hfx' : fitsB x k = false := by simpa using hfx
    clear hfx
    go_wp2_with (first | (go_at_call_of 14 (Value.int .u64 (x : Int)); refine (fits_any x k _ HX.out).mono ?_; rintro e w2 ⟨rfl, rfl⟩) | (go_at_call_of 14 (Value.int .u64 (y : Int)); refine (fits_any y k _ HY.out).mono ?_; rintro e w3 ⟨rfl, rfl⟩))
    go_ret
    exact ⟨rfl, hb2⟩

end Go.Proofs.Ytbkkkjegbdbeeaa.packOrder
