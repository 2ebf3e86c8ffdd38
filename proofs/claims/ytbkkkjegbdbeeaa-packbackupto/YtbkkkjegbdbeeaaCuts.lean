/- PackCuts, the walk: over the turned program the law PackCuts returns true for every thing and every cut, and turns nothing that was there. -/
import Derived.Test.YtbkkkjegbdbeeaaOrder
import Derived.Deep.RegionHeldLaw
namespace Go.Proofs.Ytbkkkjegbdbeeaa.packCuts
open Go.RowKit
set_option linter.unusedVariables false

/-- pack.Str(nil, s), and its string in every later world that keeps what was there. -/
theorem str_conv (s : ByteArray) (w : World) (hs : s.size ≤ maxLen) :
    Calls Try.prog 11 #[.slice none 0 0, .string s] w fun e w' => ∃ v', e = .returned v' ∧ (∀ W : World, w'.grownBy W none → (convert 22 9 v').run Try.prog W = .ok (.string ⟨(strB s.data.toList).toArray⟩) W) ∧ w'.grownBy w' none ∧ w.grownBy w' none := by
  refine (str_nil s w hs).mono ?_
  rintro e w' ⟨v', rfl, ho, hg⟩
  exact ⟨v', rfl, fun W hW => run_convert_own W 22 9 5 Try.underlying22 Try.underlying5 Try.underlying9 (ho.kept hW (by cases h : v'.ownBlock <;> simp)), World.grownBy.refl _ _, hg⟩

/-- A block of four cells. -/
def Th (w : World) (b : Nat) (t k : Int) (n : Nat) (s : ByteArray) : Prop := w.heap[b]? = some (.cells #[.int .i64 t, .int .i64 k, .int .u64 n, .string s] 25 (0, 0))
theorem Th.c {w : World} {b : Nat} {t k : Int} {n : Nat} {s : ByteArray} (h : Th w b t k n s) : w.cell? ⟨b, 0, none⟩ = some (.int .i64 t) ∧ w.cell? ⟨b, 1, none⟩ = some (.int .i64 k) ∧ w.cell? ⟨b, 2, none⟩ = some (.int .u64 n) ∧ w.cell? ⟨b, 3, none⟩ = some (.string s) := by
  refine ⟨?_, ?_, ?_, ?_⟩
  · rw [cell_of_row w b 0 _ 25 (0, 0) h]; rfl
  · rw [cell_of_row w b 1 _ 25 (0, 0) h]; rfl
  · rw [cell_of_row w b 2 _ 25 (0, 0) h]; rfl
  · rw [cell_of_row w b 3 _ 25 (0, 0) h]; rfl
theorem Th.lt {w : World} {b : Nat} {t k : Int} {n : Nat} {s : ByteArray} (h : Th w b t k n s) : b < w.heap.size := (Array.getElem?_eq_some_iff.1 h).1
theorem Th.kept {w w' : World} {b : Nat} {t k : Int} {n : Nat} {s : ByteArray} {row : Option Nat} (h : Th w b t k n s) (hg : w.grownBy w' row) (hne : some b ≠ row) : Th w' b t k n s := by
  unfold Th
  rw [hg.block b h.lt hne]
  exact h
theorem Th.below {w w' : World} {b B : Nat} {t k : Int} {n : Nat} {s : ByteArray} (h : Th w b t k n s) (hb : Below B w w') (hB : b < B) : Th w' b t k n s := by
  unfold Th
  rw [hb.block b hB]
  exact h

theorem cut_nat (c : Int) : ∃ U : Nat, IntKind.u64.wrap c = (U : Int) := by
  rw [IntKind.wrap_u64]
  exact ⟨(c % 18446744073709551616).toNat, by rw [Int.toNat_of_nonneg (Int.emod_nonneg _ (by omega))]⟩
theorem wrap_len (n : Nat) (h : n ≤ 9223372036854775807) : IntKind.u64.wrap (n : Int) = (n : Int) := by rw [IntKind.wrap_u64]; omega
theorem rem_nat (U n : Nat) (h : 0 < n) : ∃ r : Nat, r < n ∧ (U : Int).tmod (n : Int) = (r : Int) :=
  ⟨U % n, Nat.mod_lt _ h, by rw [Int.tmod_eq_emod_of_nonneg (by omega)]; simp⟩

theorem cut1 (b : Nat) (s : ByteArray) (k : Int) (w : World) (h : Rd w b s 0) (hlt : s.size < wid k) (hs : s.size ≤ maxLen) :
    Calls Try.prog 18 #[.pointer (some ⟨b, 0, none⟩), .int .i64 k] w fun y w' => y = .returned (.int .u64 0) ∧ Rd w' b s 2 ∧ w.grownBy w' (some b) := by
  refine (rnum_any b s 0 k w h hs).mono ?_
  rintro e w' ⟨rfl, hr, hg⟩
  have hl : (s.size : Int) < ((wid k : Nat) : Int) := by omega
  have e1 : rawR s 0 (wid k) = ByteArray.empty := by simp [rawR, hlt]
  have e2 : rawS s 0 (wid k) = s := by simp [rawS, hlt]
  have e3 : rawE s 0 (wid k) = 2 := by simp [rawE, hlt]
  rw [e2, e3] at hr
  rw [e1]
  exact ⟨rfl, hr, hg⟩
theorem cut2 (b : Nat) (s : ByteArray) (w : World) (h : Rd w b s 0) (hc : s.size = 0 ∨ (strN s ≤ 255 ∧ s.size ≤ strN s)) (hs : s.size ≤ maxLen) :
    Calls Try.prog 20 #[.pointer (some ⟨b, 0, none⟩), .int .i64 255] w fun y w' => y = .returned (.string ByteArray.empty) ∧ Rd w' b s 2 ∧ w.grownBy w' (some b) := by
  refine (rstr_any b s 0 255 w h hs).mono ?_
  rintro e w' ⟨rfl, hr, hg⟩
  have e0 : strOk s 0 255 = false := by unfold strOk; rw [decide_eq_false_iff_not]; omega
  have e1 : strR s 0 255 = ByteArray.empty := by simp [strR, e0]
  have e2 : strS s 0 255 = s := by simp [strS, e0]
  have e3 : strE s 0 255 = 2 := by
    unfold strE
    rw [if_neg (by omega)]
    split
    · rfl
    · rw [if_neg (by omega), if_pos (by omega)]
  rw [e2, e3] at hr
  rw [e1]
  exact ⟨rfl, hr, hg⟩
theorem size_ext (l : List UInt8) (r : Nat) (h : r ≤ l.length) : ((⟨l.toArray⟩ : ByteArray).extract 0 r).size = r := by
  rw [ByteArray.size_extract]
  show min r l.toArray.size - 0 = r
  simp; omega
theorem head_ext (l : List UInt8) (r : Nat) (h : r < (strB l).length) : ((⟨(strB l).toArray⟩ : ByteArray).extract 0 r).size = 0 ∨ (strN ((⟨(strB l).toArray⟩ : ByteArray).extract 0 r) ≤ 255 ∧ ((⟨(strB l).toArray⟩ : ByteArray).extract 0 r).size ≤ strN ((⟨(strB l).toArray⟩ : ByteArray).extract 0 r)) := by
  rw [size_ext _ _ (by omega)]
  rcases Nat.eq_zero_or_pos r with h0 | h0
  · exact .inl h0
  · right
    have e : strN ((⟨(strB l).toArray⟩ : ByteArray).extract 0 r) = min l.length 255 := by
      unfold strN
      rw [ext_list]
      obtain ⟨m, rfl⟩ : ∃ m, r = m + 1 := ⟨r - 1, by omega⟩
      simp [strB]
      omega
    rw [e]
    simp only [strB, List.length_cons, List.length_take] at h
    omega

set_option maxRecDepth 100000 in
set_option maxHeartbeats 1000000 in
theorem walk (t k : Int) (n : Nat) (s : ByteArray) (cut : Int) (w : World) (hn : (n : Int) < 18446744073709551616) (hs : s.size ≤ maxLen) :
    Calls Try.prog 7 #[.agg #[.int .i64 t, .int .i64 k, .int .u64 n, .string s], .int .i64 cut] w fun e w' => e = .returned (.bool true) ∧ Below w.heap.size w w' := by
  have Hn : Hid ((n : Int) < 18446744073709551616) := hn
  have Hs : Hid (s.size ≤ maxLen) := hs
  clear hn hs
  go_enter Try.func7, Try.ntmps7
  go_upto_region 3 with (go_at_call 9; refine (lives_any _).mono ?_; rintro e w1 ⟨rfl, hb⟩)
  have ht1 : Th w1 w.heap.size t k n s := Th.below (w := w.alloc (.cells #[.int .i64 t, .int .i64 k, .int .u64 n, .string s] 25)) (heap_alloc_new w _) hb (by simp)
  have hb1 : Below w.heap.size w w1 := ((Below.refl _ _).alloc (Nat.le_refl _) _).trans (hb.mono (by simp))
  have hz1 : w.heap.size < w1.heap.size := ht1.lt
  have d1 : ∀ W : World, w1.drew.grownBy W none → W.cell? ⟨w.heap.size, 1, none⟩ = some (.int .i64 k) := fun W h => (Th.kept (w := w1.drew) ht1 h (by simp)).c.2.1
  have d2 : ∀ W : World, w1.drew.grownBy W none → W.cell? ⟨w.heap.size, 2, none⟩ = some (.int .u64 n) := fun W h => (Th.kept (w := w1.drew) ht1 h (by simp)).c.2.2.1
  have d3 : ∀ W : World, w1.drew.grownBy W none → W.cell? ⟨w.heap.size, 3, none⟩ = some (.string s) := fun W h => (Th.kept (w := w1.drew) ht1 h (by simp)).c.2.2.2
  have dr : w1.drew.grownBy w1.drew none := World.grownBy.refl _ _
  have c1 := ht1.c.2.1
  have c2 := ht1.c.2.2.1
  have c3 := ht1.c.2.2.2
  clear hb
  go_cut [5, 6] from 13 to 22 (fun a b wx => a = .string ⟨(be n (wid k)).toArray⟩ ∧ b = .string ⟨(strB s.data.toList).toArray⟩ ∧ Below w.heap.size w wx ∧ Th wx w.heap.size t k n s)
  case first =>
    go_region_held (fun w' => w'.cell? ⟨w.heap.size, 1, none⟩ = some (.int .i64 k) ∧ w'.cell? ⟨w.heap.size, 2, none⟩ = some (.int .u64 n) ∧ w'.cell? ⟨w.heap.size, 3, none⟩ = some (.string s)) (first | go_keep | exact ⟨d1 _ (by assumption), d2 _ (by assumption), d3 _ (by assumption)⟩ | exact ⟨d1 _ (grown_trans (by assumption) (by assumption) (.inl rfl)), d2 _ (grown_trans (by assumption) (by assumption) (.inl rfl)), d3 _ (grown_trans (by assumption) (by assumption) (.inl rfl))⟩) (first | (go_at_call 10; refine (packOrder.num_conv n k _ Hn.out).mono ?_; rintro e w2 ⟨v2, rfl, hc2, hr2, hg2⟩) | (go_at_call 11; refine (str_conv s _ Hs.out).mono ?_; rintro e w3 ⟨v3, rfl, hc3, hr3, hg3⟩))
    all_goals (have hB := packOrder.below2 hb1 hg2 hg3; have hT := (Th.kept (w := w1.drew) ht1 hg2 (by simp)).kept hg3 (by simp); go_wp2_with fail; go_meet; exact ⟨rfl, rfl, hB, hT⟩)
  case rest =>
  obtain ⟨rfl, rfl, hb2, ht2⟩ := hcut
  clear hb1 hz1 d1 d2 d3 dr c1 c2 c3 ht1 w1
  have hlo : 0 < (be n (wid k)).length := by rw [be_len]; exact wid_lo k
  have hhi : (be n (wid k)).length ≤ 8 := by rw [be_len]; exact wid_hi k
  have hlo' : 0 < (strB s.data.toList).length := by simp [strB]
  have hhi' : (strB s.data.toList).length ≤ 256 := strB_len _
  obtain ⟨U, hU⟩ := cut_nat cut
  obtain ⟨ra, hra, hta⟩ := rem_nat U (be n (wid k)).length (by omega)
  obtain ⟨rb, hrb, htb⟩ := rem_nat U (strB s.data.toList).length (by omega)
  have HA : Hid (((⟨(be n (wid k)).toArray⟩ : ByteArray).extract 0 ra).size < wid k) := by show _ < _; rw [size_ext _ _ (by omega)]; rw [be_len] at hra; exact hra
  have HB := head_ext s.data.toList rb hrb
  have HA' : Hid (((⟨(be n (wid k)).toArray⟩ : ByteArray).extract 0 ra).size ≤ maxLen) := by show _ ≤ _; rw [size_ext _ _ (by omega)]; unfold maxLen; omega
  have HB' : Hid (((⟨(strB s.data.toList).toArray⟩ : ByteArray).extract 0 rb).size ≤ maxLen) := by show _ ≤ _; rw [size_ext _ _ (by omega)]; unfold maxLen; omega
  generalize be n (wid k) = la at *
  generalize strB s.data.toList = lb at *
  have HB2 : Hid _ := HB
  clear HB
  have hwa := wrap_len la.length (by omega)
  have hwb := wrap_len lb.length (by omega)
  have hz : ((la.length : Int) == 0) = false := by rw [beq_eq_false_iff_ne]; omega
  have hz' : ((lb.length : Int) == 0) = false := by rw [beq_eq_false_iff_ne]; omega
  go_wp2_with fail
  refine (from_any _ _).mono ?_
  rintro e w1 ⟨rfl, hw1⟩
  have hRx : Rd w1 wc.heap.size ((⟨la.toArray⟩ : ByteArray).extract 0 ra) 0 := by rw [hw1]; exact Rd.new _ _ _
  have hT1 : Th w1 w.heap.size t k n s := ht2.kept (by rw [hw1]; exact World.grownBy_alloc wc _ none) (by simp)
  have hb3 : Below w.heap.size w w1 := by rw [hw1]; exact hb2.alloc hb2.size _
  generalize hbx : wc.heap.size = bx at *
  have hbz : w.heap.size < bx := by have := ht2.lt; omega
  clear hw1 hb2 ht2 hbx wc
  go_wp2_with fail
  refine (from_any _ _).mono ?_
  rintro e w2 ⟨rfl, hw2⟩
  have hRy : Rd w2 w1.heap.size ((⟨lb.toArray⟩ : ByteArray).extract 0 rb) 0 := by rw [hw2]; exact Rd.new _ _ _
  have hg2 : w1.grownBy w2 none := by rw [hw2]; exact World.grownBy_alloc w1 _ none
  have hRx2 := hRx.kept hg2 (by simp)
  have hT2 := hT1.kept hg2 (by simp)
  have hb4 := hb3.grown hg2 hb3.size (by simp)
  generalize hby : w1.heap.size = yb at *
  have hxy : bx < yb := by have := hRx.lt; omega
  clear hw2 hb3 hT1 hby hRx hg2 w1 hta htb hwa hwb hz hz' hlo hhi hlo' hhi' hra hrb hU
  generalize (⟨la.toArray⟩ : ByteArray).extract 0 ra = sa at *
  generalize (⟨lb.toArray⟩ : ByteArray).extract 0 rb = sb at *
  go_wp2_with fail
  refine (left_any _ _ _ _ hRx2).mono ?_
  rintro e w3 ⟨rfl, hw3⟩
  subst hw3
  go_wp2_with fail
  refine (left_any _ _ _ _ hRy).mono ?_
  rintro e w4 ⟨rfl, hw4⟩
  subst hw4
  have c1 := hT2.c.2.1
  go_wp2_with fail
  refine (cut1 _ _ _ _ hRx2 HA.out HA'.out).mono ?_
  rintro e w5 ⟨rfl, hRx5, hg5⟩
  have hRy5 := hRy.kept hg5 (by simp; omega)
  have hb5 := hb4.grown hg5 hb4.size (by simp; omega)
  clear hRx2 hRy hT2 hb4 hg5 c1
  go_wp2_with fail
  refine (err_any _ _ _ _ hRx5).mono ?_
  rintro e w6 ⟨rfl, hw6⟩
  subst hw6
  go_wp2_with fail
  refine (left_any _ _ _ _ hRx5).mono ?_
  rintro e w7 ⟨rfl, hw7⟩
  subst hw7
  go_wp2_with fail
  refine (cut2 _ _ _ hRy5 HB2.out HB'.out).mono ?_
  rintro e w8 ⟨rfl, hRy8, hg8⟩
  have hb8 := hb5.grown hg8 hb5.size (by simp; omega)
  clear hRx5 hRy5 hb5 hg8
  go_wp2_with fail
  refine (err_any _ _ _ _ hRy8).mono ?_
  rintro e w9 ⟨rfl, hw9⟩
  subst hw9
  go_wp2_with fail
  refine (left_any _ _ _ _ hRy8).mono ?_
  rintro e wA ⟨rfl, hwA⟩
  subst hwA
  go_wp2
  go_ret
  exact ⟨rfl, hb8⟩

end Go.Proofs.Ytbkkkjegbdbeeaa.packCuts
