/- Contracts, over the turned program: each method of the reference's reader answers as pack's reader does over the bytes that are left, and leaves itself so. Conditions: those that each theorem states. -/
import Derived.Test.YtamgnpmkmlhadaaRef
import Derived.Deep.QuietTactic
import Derived.Deep.CutRange
import Derived.Deep.RegionWith
import Derived.BigQuiet
namespace Go.Proofs.Ytamgnpmkmlhadaa
open Go.RowKit
set_option linter.unusedVariables false

/-- The reference's reader in block b: the bytes s, where it stands, the first error. -/
def Rf (w : World) (b : Nat) (s : ByteArray) (at_ : Nat) (e : Int) : Prop := w.heap[b]? = some (.cells #[.string s, .int .i64 at_, .int .i64 e] 67 (0, 0))
theorem Rf.c0 {w : World} {b : Nat} {s : ByteArray} {p : Nat} {e : Int} (h : Rf w b s p e) : w.cell? ⟨b, 0, none⟩ = some (.string s) := by
  rw [cell_of_row w b 0 _ 67 (0, 0) h]; rfl
theorem Rf.c1 {w : World} {b : Nat} {s : ByteArray} {p : Nat} {e : Int} (h : Rf w b s p e) : w.cell? ⟨b, 1, none⟩ = some (.int .i64 p) := by
  rw [cell_of_row w b 1 _ 67 (0, 0) h]; rfl
theorem Rf.c2 {w : World} {b : Nat} {s : ByteArray} {p : Nat} {e : Int} (h : Rf w b s p e) : w.cell? ⟨b, 2, none⟩ = some (.int .i64 e) := by
  rw [cell_of_row w b 2 _ 67 (0, 0) h]; rfl
theorem Rf.fz {w : World} {b : Nat} {s : ByteArray} {p : Nat} {e : Int} (h : Rf w b s p e) (j : Nat) : w.frozen? ⟨b, j, none⟩ = false := by
  unfold World.frozen?
  rw [show w.heap[(⟨b, j, none⟩ : Addr).block]? = _ from h]
  simp
theorem Rf.lt {w : World} {b : Nat} {s : ByteArray} {p : Nat} {e : Int} (h : Rf w b s p e) : b < w.heap.size := (Array.getElem?_eq_some_iff.1 h).1
theorem Rf.kept {w w' : World} {b : Nat} {s : ByteArray} {p : Nat} {e : Int} {row : Option Nat} (h : Rf w b s p e) (hg : w.grownBy w' row) (hne : some b ≠ row) : Rf w' b s p e := by
  unfold Rf
  rw [hg.block b h.lt hne]
  exact h
theorem Rf.new (w : World) (s : ByteArray) : Rf (w.alloc (.cells #[.string s, .int .i64 0, .int .i64 0] 67)) w.heap.size s 0 0 := heap_alloc_new w _
theorem Rf.set1 {w : World} {b : Nat} {s : ByteArray} {p : Nat} {e : Int} (h : Rf w b s p e) (x : Nat) : Rf (w.setCell ⟨b, 1, none⟩ (.int .i64 x)) b s x e ∧ w.grownBy (w.setCell ⟨b, 1, none⟩ (.int .i64 x)) (some b) := by
  refine ⟨?_, ⟨rfl, rfl, rfl, by simp, fun k _ hk => heap_setCell_other w _ k _ (fun hb => hk (by simp [hb]))⟩⟩
  unfold Rf
  rw [heap_setCell_same w b 1 _ 67 _ h]
  rfl
theorem Rf.set2 {w : World} {b : Nat} {s : ByteArray} {p : Nat} {e : Int} (h : Rf w b s p e) (x : Int) : Rf (w.setCell ⟨b, 2, none⟩ (.int .i64 x)) b s p x ∧ w.grownBy (w.setCell ⟨b, 2, none⟩ (.int .i64 x)) (some b) := by
  refine ⟨?_, ⟨rfl, rfl, rfl, by simp, fun k _ hk => heap_setCell_other w _ k _ (fun hb => hk (by simp [hb]))⟩⟩
  unfold Rf
  rw [heap_setCell_same w b 2 _ 67 _ h]
  rfl
theorem grown_drewN (w : World) (n : Nat) (row : Option Nat) : w.grownBy (w.drewN n) row := ⟨rfl, rfl, rfl, Nat.le_refl _, fun _ _ _ => rfl⟩

set_option maxRecDepth 100000 in
set_option maxHeartbeats 400000 in
theorem rfleft_any (b : Nat) (s : ByteArray) (p : Nat) (e : Int) (w : World) (h : Rf w b s p e) (hp : p ≤ s.size) (hs : s.size ≤ maxLen) :
    Calls Try.prog 52 #[.pointer (some ⟨b, 0, none⟩)] w fun x w' => x = .returned (.int .i64 ((s.size - p : Nat) : Int)) ∧ w.grownBy w' none := by
  have h0 := h.c0
  have h1 := h.c1
  unfold maxLen at hs
  have E : Hid ((s.size : Int) - (p : Int) = ((s.size - p : Nat) : Int)) := by show _ = _; omega
  go_enter Try.func52, Try.ntmps52
  go_upto_region 1 with fail
  go_quiet (fail)
  go_wp2
  go_ret
  exact ⟨congrArg (fun x => Ending.returned (Value.int .i64 x)) E.out, grown_drewN _ _ _⟩

/-- The bytes that are left. -/
def rest (s : ByteArray) (p : Nat) : ByteArray := s.extract p s.size
theorem rest_size (s : ByteArray) (p : Nat) : (rest s p).size = s.size - p := by unfold rest; rw [ByteArray.size_extract, Nat.min_self]
theorem rest_ext (s : ByteArray) (p m : Nat) (h : p + m ≤ s.size) : (rest s p).extract 0 m = s.extract p (p + m) := by
  apply ByteArray.ext
  apply Array.ext'
  unfold rest
  rw [ext_list, ext_list, ext_list, List.drop_zero, Nat.sub_zero, List.take_take]
  congr 1
  omega
theorem rest_ext1 (s : ByteArray) (p m : Nat) (h : p + (1 + m) ≤ s.size) : (rest s p).extract 1 (1 + m) = s.extract (p + 1) (p + (1 + m)) := by
  apply ByteArray.ext
  apply Array.ext'
  unfold rest
  rw [ext_list, ext_list, ext_list, List.drop_take, List.drop_drop, List.take_take]
  congr 1
  omega
theorem rest_rest (s : ByteArray) (p m : Nat) (h : p + m ≤ s.size) : (rest s p).extract m (rest s p).size = rest s (p + m) := by
  apply ByteArray.ext
  apply Array.ext'
  rw [rest_size]
  unfold rest
  rw [ext_list, ext_list, ext_list, List.drop_take, List.drop_drop, List.take_take]
  congr 1
  omega
theorem rest_self (s : ByteArray) : rest s 0 = s := by
  apply ByteArray.ext
  apply Array.ext'
  unfold rest
  rw [ext_list, List.drop_zero, Nat.sub_zero]
  exact List.take_of_length_le (by rw [len_data]; omega)

theorem Rf.drewN {w : World} {b : Nat} {s : ByteArray} {p : Nat} {e : Int} (h : Rf w b s p e) (n : Nat) : Rf (w.drewN n) b s p e := h
theorem grown_then_drewN {w w' : World} {row : Option Nat} (h : w.grownBy w' row) (n : Nat) : w.grownBy (w'.drewN n) row := ⟨h.os, h.tape, h.output, h.size, h.block⟩
theorem grown_none {w w' : World} {row : Option Nat} (h : w.grownBy w' none) : w.grownBy w' row := ⟨h.os, h.tape, h.output, h.size, fun k hk _ => h.block k hk (by simp)⟩

set_option maxRecDepth 100000 in
set_option maxHeartbeats 400000 in
theorem rfraw_ok (b : Nat) (s : ByteArray) (p m : Nat) (w : World) (h : Rf w b s p 0) (hp : p + m ≤ s.size) (hs : s.size ≤ maxLen) :
    Calls Try.prog 51 #[.pointer (some ⟨b, 0, none⟩), .int .i64 m] w fun y w' => y = .returned (.string (s.extract p (p + m))) ∧ Rf w' b s (p + m) 0 ∧ w.grownBy w' (some b) := by
  have h0 := h.c0
  have h1 := h.c1
  have h2 := h.c2
  have Hs : Hid (s.size ≤ maxLen) := hs
  unfold maxLen at hs
  have hm0 : ¬ (m : Int) < 0 := by omega
  go_enter Try.func51, Try.ntmps51
  go_wp2_with fail
  refine (rfleft_any b s p 0 _ h (by omega) Hs.out).mono ?_
  rintro e w1 ⟨rfl, hg1⟩
  have hr1 := h.kept hg1 (by simp)
  clear h0 h1 h2
  have h0 := hr1.c0
  have h1 := hr1.c1
  have hz := hr1.fz 1
  have hle : (m : Int) ≤ ((s.size - p : Nat) : Int) := by omega
  have hpm : (p : Int) + (m : Int) ≤ (s.size : Int) := by omega
  have hp0 : (0 : Int) ≤ (p : Int) := by omega
  have HR : Hid (Rf (w1.setCell ⟨b, 1, none⟩ (.int .i64 ((p : Int) + (m : Int)))) b s (p + m) 0 ∧ w.grownBy (w1.setCell ⟨b, 1, none⟩ (.int .i64 ((p : Int) + (m : Int)))) (some b)) := by
    have hh := hr1.set1 (p + m)
    rw [show ((p + m : Nat) : Int) = (p : Int) + (m : Int) by omega] at hh
    exact ⟨hh.1, grown_trans (grown_none hg1) hh.2 (.inl rfl)⟩
  go_upto_region 8 with fail
  go_quiet (fail)
  go_wp2
  go_ret
  exact ⟨rfl, HR.out.1.drewN _, grown_then_drewN HR.out.2 _⟩
set_option maxRecDepth 100000 in
set_option maxHeartbeats 400000 in
theorem rfraw_neg (b : Nat) (s : ByteArray) (p : Nat) (k : Int) (w : World) (h : Rf w b s p 0) (hp : p ≤ s.size) (hs : s.size ≤ maxLen) (hk : k < 0) :
    Calls Try.prog 51 #[.pointer (some ⟨b, 0, none⟩), .int .i64 k] w fun y w' => y = .returned (.string ByteArray.empty) ∧ Rf w' b s p 0 ∧ w.grownBy w' (some b) := by
  have h0 := h.c0
  have h1 := h.c1
  have h2 := h.c2
  have Hs : Hid (s.size ≤ maxLen) := hs
  unfold maxLen at hs
  go_enter Try.func51, Try.ntmps51
  go_wp2_with fail
  refine (rfleft_any b s p 0 _ h (by omega) Hs.out).mono ?_
  rintro e w1 ⟨rfl, hg1⟩
  have hr1 := h.kept hg1 (by simp)
  clear h0 h1 h2
  have h0 := hr1.c0
  have h1 := hr1.c1
  have hz := hr1.fz 1
  have hpm : (p : Int) ≤ (s.size : Int) := by omega
  have hp0 : (0 : Int) ≤ (p : Int) := by omega
  have HR : Hid (Rf (w1.setCell ⟨b, 1, none⟩ (.int .i64 (p : Int))) b s p 0 ∧ w.grownBy (w1.setCell ⟨b, 1, none⟩ (.int .i64 (p : Int))) (some b)) :=
    ⟨(hr1.set1 p).1, grown_trans (grown_none hg1) (hr1.set1 p).2 (.inl rfl)⟩
  go_upto_region 8 with fail
  go_quiet (fail)
  go_wp2
  go_ret
  exact ⟨rfl, HR.out.1.drewN _, grown_then_drewN HR.out.2 _⟩
set_option maxRecDepth 100000 in
set_option maxHeartbeats 400000 in
theorem rfraw_short (b : Nat) (s : ByteArray) (p m : Nat) (w : World) (h : Rf w b s p 0) (hp : p ≤ s.size) (hm : s.size - p < m) (hs : s.size ≤ maxLen) :
    Calls Try.prog 51 #[.pointer (some ⟨b, 0, none⟩), .int .i64 m] w fun y w' => y = .returned (.string ByteArray.empty) ∧ Rf w' b s p 2 ∧ w.grownBy w' (some b) := by
  have h0 := h.c0
  have h1 := h.c1
  have h2 := h.c2
  have Hs : Hid (s.size ≤ maxLen) := hs
  unfold maxLen at hs
  have hm0 : ¬ (m : Int) < 0 := by omega
  go_enter Try.func51, Try.ntmps51
  go_wp2_with fail
  refine (rfleft_any b s p 0 _ h (by omega) Hs.out).mono ?_
  rintro e w1 ⟨rfl, hg1⟩
  have hr1 := h.kept hg1 (by simp)
  clear h0 h1 h2
  have h0 := hr1.c0
  have h1 := hr1.c1
  have h2 := hr1.c2
  have hz := hr1.fz 2
  have HR : Hid (Rf (w1.setCell ⟨b, 2, none⟩ (.int .i64 2)) b s p 2 ∧ w.grownBy (w1.setCell ⟨b, 2, none⟩ (.int .i64 2)) (some b)) :=
    ⟨(hr1.set2 2).1, grown_trans (grown_none hg1) (hr1.set2 2).2 (.inl rfl)⟩
  go_wp2
  go_ret
  exact ⟨rfl, HR.out.1, HR.out.2⟩
set_option maxRecDepth 100000 in
set_option maxHeartbeats 400000 in
theorem rfraw_err (b : Nat) (s : ByteArray) (p : Nat) (e k : Int) (w : World) (h : Rf w b s p e) (he : (e != 0) = true) :
    Calls Try.prog 51 #[.pointer (some ⟨b, 0, none⟩), .int .i64 k] w fun y w' => y = .returned (.string ByteArray.empty) ∧ w' = w := by
  have h0 := h.c0
  have h1 := h.c1
  have h2 := h.c2
  by_cases hk : k < 0
  all_goals
    go_enter Try.func51, Try.ntmps51
    go_wp2
    go_ret
    exact ⟨rfl, rfl⟩

/-- What a reading call of the reference's reader leaves: where it stands now, the error, the rest of memory. -/
def RfPost (b : Nat) (s : ByteArray) (r : ByteArray) (e' : Int) (w w' : World) : Prop := ∃ p', p' ≤ s.size ∧ rest s p' = r ∧ Rf w' b s p' e' ∧ w.grownBy w' (some b)

theorem rfraw_any (b : Nat) (s : ByteArray) (p : Nat) (e k : Int) (w : World) (h : Rf w b s p e) (hp : p ≤ s.size) (hs : s.size ≤ maxLen) :
    Calls Try.prog 51 #[.pointer (some ⟨b, 0, none⟩), .int .i64 k] w fun y w' => y = .returned (.string (rawR (rest s p) e k)) ∧ RfPost b s (rawS (rest s p) e k) (rawE (rest s p) e k) w w' := by
  have hz := rest_size s p
  by_cases he : e = 0
  · subst he
    by_cases hk : k < 0
    · refine (rfraw_neg b s p k w h hp hs hk).mono ?_
      rintro y w' ⟨rfl, hr, hg⟩
      have e1 : rawR (rest s p) 0 k = ByteArray.empty := by simp [rawR, hk]
      have e2 : rawS (rest s p) 0 k = rest s p := by simp [rawS, hk]
      have e3 : rawE (rest s p) 0 k = 0 := by unfold rawE; simp; omega
      rw [e1, e2, e3]
      exact ⟨rfl, p, hp, rfl, hr, hg⟩
    · obtain ⟨m, rfl⟩ := Int.eq_ofNat_of_zero_le (by omega : 0 ≤ k)
      by_cases hl : s.size - p < m
      · refine (rfraw_short b s p m w h hp hl hs).mono ?_
        rintro y w' ⟨rfl, hr, hg⟩
        have hl' : ((rest s p).size : Int) < (m : Int) := by omega
        have e1 : rawR (rest s p) 0 m = ByteArray.empty := by unfold rawR; rw [if_pos (by omega)]
        have e2 : rawS (rest s p) 0 m = rest s p := by unfold rawS; rw [if_pos (by omega)]
        have e3 : rawE (rest s p) 0 m = 2 := by unfold rawE; rw [if_neg (by omega), if_pos hl']
        rw [e1, e2, e3]
        exact ⟨rfl, p, hp, rfl, hr, hg⟩
      · refine (rfraw_ok b s p m w h (by omega) hs).mono ?_
        rintro y w' ⟨rfl, hr, hg⟩
        have e1 : rawR (rest s p) 0 m = s.extract p (p + m) := by unfold rawR; rw [if_neg (by omega), Int.toNat_natCast, rest_ext _ _ _ (by omega)]
        have e2 : rawS (rest s p) 0 m = rest s (p + m) := by unfold rawS; rw [if_neg (by omega), Int.toNat_natCast, rest_rest _ _ _ (by omega)]
        have e3 : rawE (rest s p) 0 m = 0 := by unfold rawE; rw [if_neg (by omega), if_neg (by omega)]
        rw [e1, e2, e3]
        exact ⟨rfl, p + m, by omega, rfl, hr, hg⟩
  · refine (rfraw_err b s p e k w h (by simp [he])).mono ?_
    rintro y w' ⟨rfl, rfl⟩
    have e1 : rawR (rest s p) e k = ByteArray.empty := by simp [rawR, he]
    have e2 : rawS (rest s p) e k = rest s p := by simp [rawS, he]
    have e3 : rawE (rest s p) e k = e := by simp [rawE, he]
    rw [e1, e2, e3]
    exact ⟨rfl, p, hp, rfl, h, World.grownBy.refl _ _⟩

theorem mul_step (x : Nat) (c : UInt8) (hx : x < 72057594037927936) : IntKind.u64.wrap (IntKind.u64.wrap (256 * (x : Int)) + IntKind.u64.wrap (c.toNat : Int)) = ((x * 256 + c.toNat : Nat) : Int) := by
  have hc := c.toNat_lt
  rw [IntKind.wrap_u64, IntKind.wrap_u64, IntKind.wrap_u64]
  omega

set_option maxRecDepth 100000 in
set_option maxHeartbeats 400000 in
theorem rfrnum_any (b : Nat) (s : ByteArray) (p : Nat) (e k : Int) (w : World) (h : Rf w b s p e) (hp : p ≤ s.size) (hs : s.size ≤ maxLen) :
    Calls Try.prog 35 #[.pointer (some ⟨b, 0, none⟩), .int .i64 k] w fun y w' => y = .returned (.int .u64 (val (rawR (rest s p) e (wid k)).data.toList)) ∧ RfPost b s (rawS (rest s p) e (wid k)) (rawE (rest s p) e (wid k)) w w' := by
  have hlo := wid_lo k
  have hhi := wid_hi k
  obtain ⟨r, hr⟩ : ∃ r, r = rawR (rest s p) e (wid k) := ⟨_, rfl⟩
  have hrs : r.size ≤ 8 := by rw [hr]; have := rawR_size (rest s p) e (wid k); omega
  rw [← hr]
  have Hr : Hid (r = rawR (rest s p) e (wid k)) := hr
  have Hp : Hid (p ≤ s.size) := hp
  clear hr hp
  go_enter Try.func35, Try.ntmps35
  go_wp2_with (first | (go_at_call 46; refine (rfsize_any _ _).mono ?_; rintro e w' ⟨rfl, rfl⟩) | (go_at_call 51; refine (rfraw_any _ _ _ _ _ _ h Hp.out hs).mono ?_; rintro x w1 ⟨rfl, hR⟩; rw [← Hr.out]))
  go_loop [6, 7] (fun n i => ∃ j : Nat, j ≤ r.size ∧ i = .int .i64 j ∧ n = .int .u64 (val (r.data.toList.take j))) (fun _ i => r.size - (intOf i).toNat)
  case atStart => exact ⟨0, Nat.zero_le _, rfl, rfl⟩
  case round =>
    obtain ⟨j, hj, rfl, rfl⟩ := hrel
    by_cases hlt : j < r.size
    · have Ht : Hid (val (r.data.toList.take (j + 1)) = val (r.data.toList.take j) * 256 + r[j].toNat) := by rw [take_snoc r j hlt]; exact val_snoc _ _
      have Hx : Hid (val (r.data.toList.take j) < 72057594037927936) := by
        have h1 := val_lt (r.data.toList.take j)
        have h2 : (r.data.toList.take j).length ≤ 7 := by simp; omega
        exact Nat.lt_of_lt_of_le h1 (Nat.le_trans (Nat.pow_le_pow_right (by omega) h2) (by omega))
      go_wp2
      go_round
      case rel => exact ⟨j + 1, by omega, by go_num, by rw [mul_step _ _ Hx.out, Ht.out]⟩
      case measure => simp [intOf]; omega
    · have Ht : Hid (r.data.toList.take j = r.data.toList) := List.take_of_length_le (by simp; omega)
      go_wp2
      go_ret
      exact ⟨congrArg (fun l => Ending.returned (Value.int .u64 ((val l : Nat) : Int))) Ht.out, hR⟩

theorem strN_rest (s : ByteArray) (p : Nat) (h : p < s.size) : (s[p].toNat : Int) = (strN (rest s p) : Int) := by
  have e : (rest s p).data.toList = s.data.toList.drop p := by unfold rest; rw [ext_list]; exact List.take_of_length_le (by rw [List.length_drop, len_data]; omega)
  unfold strN
  rw [e]
  have hl : p < s.data.toList.length := by rw [len_data]; exact h
  rw [List.drop_eq_getElem_cons hl]
  rfl

set_option maxRecDepth 100000 in
set_option maxHeartbeats 800000 in
theorem rfrstr_any (b : Nat) (s : ByteArray) (p : Nat) (e k : Int) (w : World) (h : Rf w b s p e) (hp : p ≤ s.size) (hs : s.size ≤ maxLen) :
    Calls Try.prog 61 #[.pointer (some ⟨b, 0, none⟩), .int .i64 k] w fun y w' => y = .returned (.string (strR (rest s p) e k)) ∧ RfPost b s (strS (rest s p) e k) (strE (rest s p) e k) w w' := by
  have hz := rest_size s p
  have h0 := h.c0
  have h1 := h.c1
  have h2 := h.c2
  have hfz := h.fz 2
  have Hs : Hid (s.size ≤ maxLen) := hs
  unfold maxLen at hs
  by_cases he : e = 0
  · subst he
    by_cases hz0 : s.size - p = 0
    · have e0 : strOk (rest s p) 0 k = false := by unfold strOk; rw [decide_eq_false_iff_not]; omega
      have e1 : strR (rest s p) 0 k = ByteArray.empty := by simp [strR, e0]
      have e2 : strS (rest s p) 0 k = rest s p := by simp [strS, e0]
      have e3 : strE (rest s p) 0 k = 2 := by unfold strE; rw [if_neg (by omega), if_pos (by omega)]
      rw [e1, e2, e3]
      clear e0 e1 e2 e3
      go_enter Try.func61, Try.ntmps61
      go_wp2_with fail
      refine (rfleft_any b s p 0 _ h hp Hs.out).mono ?_
      rintro e w1 ⟨rfl, hg1⟩
      have hr1 := h.kept hg1 (by simp)
      clear h0 h1 h2 hfz
      have h0 := hr1.c0
      have h1 := hr1.c1
      have h2 := hr1.c2
      have hfz := hr1.fz 2
      have HR : Hid (Rf (w1.setCell ⟨b, 2, none⟩ (.int .i64 2)) b s p 2 ∧ w.grownBy (w1.setCell ⟨b, 2, none⟩ (.int .i64 2)) (some b)) :=
        ⟨(hr1.set2 2).1, grown_trans (grown_none hg1) (hr1.set2 2).2 (.inl rfl)⟩
      go_wp2
      go_ret
      exact ⟨rfl, p, hp, rfl, HR.out.1, HR.out.2⟩
    · have hpl : p < s.size := by omega
      have hN := strN_rest s p hpl
      have hN8 : strN (rest s p) < 256 := ((rest s p).data.toList.headD 0).toNat_lt
      have hpi : (p : Int) < (s.size : Int) := by omega
      have hl1 : ¬ ((s.size - p : Nat) : Int) < 1 := by omega
      have Hz : Hid ((rest s p).size = s.size - p) := hz
      clear hz
      by_cases hm : k < (strN (rest s p) : Int)
      · have e0 : strOk (rest s p) 0 k = false := by unfold strOk; rw [decide_eq_false_iff_not]; omega
        have e1 : strR (rest s p) 0 k = ByteArray.empty := by simp [strR, e0]
        have e2 : strS (rest s p) 0 k = rest s p := by simp [strS, e0]
        have e3 : strE (rest s p) 0 k = 3 := by have := Hz.out; unfold strE; rw [if_neg (by omega), if_neg (by omega), if_pos hm]
        rw [e1, e2, e3]
        clear e0 e1 e2 e3
        go_enter Try.func61, Try.ntmps61
        go_wp2_with fail
        refine (rfleft_any b s p 0 _ h hp Hs.out).mono ?_
        rintro e w1 ⟨rfl, hg1⟩
        have hr1 := h.kept hg1 (by simp)
        clear h0 h1 h2 hfz
        have h0 := hr1.c0
        have h1 := hr1.c1
        have h2 := hr1.c2
        have hfz := hr1.fz 2
        go_upto_region 6 with fail
        go_quiet (fail)
        have hr2 := hr1.kept (grown_drewN w1 nq none) (by simp)
        have HR : Hid (Rf ((w1.setCell ⟨b, 2, none⟩ (.int .i64 3)).drewN nq) b s p 3 ∧ w.grownBy ((w1.setCell ⟨b, 2, none⟩ (.int .i64 3)).drewN nq) (some b)) :=
          ⟨(hr1.set2 3).1.drewN nq, grown_then_drewN (grown_trans (grown_none hg1) (hr1.set2 3).2 (.inl rfl)) nq⟩
        go_wp2
        go_ret
        exact ⟨rfl, p, hp, rfl, HR.out.1, HR.out.2⟩
      · by_cases hl : s.size - p ≤ strN (rest s p)
        · have e0 : strOk (rest s p) 0 k = false := by have := Hz.out; unfold strOk; rw [decide_eq_false_iff_not]; omega
          have e1 : strR (rest s p) 0 k = ByteArray.empty := by simp [strR, e0]
          have e2 : strS (rest s p) 0 k = rest s p := by simp [strS, e0]
          have e3 : strE (rest s p) 0 k = 2 := by have := Hz.out; unfold strE; rw [if_neg (by omega), if_neg (by omega), if_neg hm, if_pos (by omega)]
          rw [e1, e2, e3]
          clear e0 e1 e2 e3
          have hl' : ((s.size - p : Nat) : Int) < 1 + (strN (rest s p) : Int) := by omega
          go_enter Try.func61, Try.ntmps61
          go_wp2_with fail
          refine (rfleft_any b s p 0 _ h hp Hs.out).mono ?_
          rintro e w1 ⟨rfl, hg1⟩
          have hr1 := h.kept hg1 (by simp)
          clear h0 h1 h2 hfz
          have h0 := hr1.c0
          have h1 := hr1.c1
          have h2 := hr1.c2
          have hfz := hr1.fz 2
          go_upto_region 6 with fail
          go_quiet (fail)
          go_wp2_with fail
          refine (rfleft_any b s p 0 _ (hr1.drewN nq) hp Hs.out).mono ?_
          rintro e w2 ⟨rfl, hg2⟩
          have hr2 := (hr1.drewN nq).kept hg2 (by simp)
          have hg3 := grown_trans (grown_then_drewN hg1 nq) hg2 (.inl rfl)
          clear h0 h1 h2 hfz
          have h0 := hr2.c0
          have h1 := hr2.c1
          have h2 := hr2.c2
          have hfz := hr2.fz 2
          have HR : Hid (Rf (w2.setCell ⟨b, 2, none⟩ (.int .i64 2)) b s p 2 ∧ w.grownBy (w2.setCell ⟨b, 2, none⟩ (.int .i64 2)) (some b)) :=
            ⟨(hr2.set2 2).1, grown_trans (grown_none hg3) (hr2.set2 2).2 (.inl rfl)⟩
          go_wp2
          go_ret
          exact ⟨rfl, p, hp, rfl, HR.out.1, HR.out.2⟩
        · have e0 : strOk (rest s p) 0 k = true := by have := Hz.out; unfold strOk; rw [decide_eq_true_iff]; omega
          have e1 : strR (rest s p) 0 k = s.extract (p + 1) (p + (1 + strN (rest s p))) := by simp only [strR, e0, if_true]; exact rest_ext1 s p _ (by omega)
          have e2 : strS (rest s p) 0 k = rest s (p + (1 + strN (rest s p))) := by simp only [strS, e0, if_true]; exact rest_rest s p _ (by omega)
          have e3 : strE (rest s p) 0 k = 0 := by have := Hz.out; unfold strE; rw [if_neg (by omega), if_neg (by omega), if_neg hm, if_neg (by omega)]
          rw [e1, e2, e3]
          clear e0 e1 e2 e3
          have hl' : ¬ ((s.size - p : Nat) : Int) < 1 + (strN (rest s p) : Int) := by omega
          obtain ⟨N, HN⟩ : ∃ N, Hid (N = strN (rest s p)) := ⟨_, rfl⟩
          rw [← HN.out] at hN hN8 hm hl hl' ⊢
          go_enter Try.func61, Try.ntmps61
          go_wp2_with fail
          refine (rfleft_any b s p 0 _ h hp Hs.out).mono ?_
          rintro e w1 ⟨rfl, hg1⟩
          have hr1 := h.kept hg1 (by simp)
          clear h0 h1 h2 hfz
          have h0 := hr1.c0
          have h1 := hr1.c1
          have h2 := hr1.c2
          have hfz := hr1.fz 2
          go_upto_region 6 with fail
          go_quiet (fail)
          go_wp2_with fail
          refine (rfleft_any b s p 0 _ (hr1.drewN nq) hp Hs.out).mono ?_
          rintro e w2 ⟨rfl, hg2⟩
          have hr2 := (hr1.drewN nq).kept hg2 (by simp)
          have hg3 := grown_trans (grown_then_drewN hg1 nq) hg2 (.inl rfl)
          clear h0 h1 h2 hfz
          have h0 := hr2.c0
          have h1 := hr2.c1
          have hfz := hr2.fz 1
          have HR : Hid (Rf (w2.setCell ⟨b, 1, none⟩ (.int .i64 ((p : Int) + (1 + (N : Int))))) b s (p + (1 + N)) 0 ∧ w.grownBy (w2.setCell ⟨b, 1, none⟩ (.int .i64 ((p : Int) + (1 + (N : Int))))) (some b)) := by
            have hh := hr2.set1 (p + (1 + N))
            rw [show ((p + (1 + N) : Nat) : Int) = (p : Int) + (1 + (N : Int)) by omega] at hh
            exact ⟨hh.1, grown_trans (grown_none hg3) hh.2 (.inl rfl)⟩
          go_upto_region 14 with fail
          go_quiet (fail)
          go_wp2
          go_ret
          exact ⟨congrArg (fun x => Ending.returned (Value.string (s.extract x (p + (1 + N))))) (by omega : p + (1 + N) - N = p + 1), p + (1 + N), by omega, rfl, HR.out.1.drewN _, grown_then_drewN HR.out.2 _⟩
  · have e0 : strOk (rest s p) e k = false := by simp [strOk, he]
    have e1 : strR (rest s p) e k = ByteArray.empty := by simp [strR, e0]
    have e2 : strS (rest s p) e k = rest s p := by simp [strS, e0]
    have e3 : strE (rest s p) e k = e := by simp [strE, he]
    rw [e1, e2, e3]
    have he' : (e != 0) = true := by simp [he]
    clear e0 e1 e2 e3 he
    go_enter Try.func61, Try.ntmps61
    go_wp2
    go_ret
    exact ⟨rfl, p, hp, rfl, h, World.grownBy.refl _ _⟩

set_option maxRecDepth 100000 in
set_option maxHeartbeats 400000 in
theorem rfdone_any (b : Nat) (s : ByteArray) (p : Nat) (e : Int) (w : World) (h : Rf w b s p e) (hp : p ≤ s.size) (hs : s.size ≤ maxLen) :
    Calls Try.prog 36 #[.pointer (some ⟨b, 0, none⟩)] w fun y w' => y = .returned (.int .i64 (doneE (rest s p) e)) ∧ w.grownBy w' none := by
  have hz := rest_size s p
  have h0 := h.c0
  have h1 := h.c1
  have h2 := h.c2
  have Hs : Hid (s.size ≤ maxLen) := hs
  unfold maxLen at hs
  by_cases he : e = 0
  · subst he
    by_cases hz0 : s.size - p = 0
    · have hd : doneE (rest s p) 0 = 0 := by unfold doneE; rw [if_neg (by omega)]
      rw [hd]
      clear hd
      go_enter Try.func36, Try.ntmps36
      go_wp2_with fail
      refine (rfleft_any b s p 0 _ h hp Hs.out).mono ?_
      rintro e w1 ⟨rfl, hg1⟩
      have hr1 := h.kept hg1 (by simp)
      clear h0 h1 h2
      have h2 := hr1.c2
      have hl1 : ¬ 0 < ((s.size - p : Nat) : Int) := by omega
      go_wp2
      go_ret
      exact ⟨rfl, hg1⟩
    · have hd : doneE (rest s p) 0 = 5 := by unfold doneE; rw [if_pos ⟨rfl, by omega⟩]
      rw [hd]
      clear hd
      go_enter Try.func36, Try.ntmps36
      go_wp2_with fail
      refine (rfleft_any b s p 0 _ h hp Hs.out).mono ?_
      rintro e w1 ⟨rfl, hg1⟩
      have hl1 : 0 < ((s.size - p : Nat) : Int) := by omega
      go_wp2
      go_ret
      exact ⟨rfl, hg1⟩
  · have hd : doneE (rest s p) e = e := by unfold doneE; rw [if_neg (by omega)]
    rw [hd]
    have he' : (e == 0) = false := by simp [he]
    clear hd he
    go_enter Try.func36, Try.ntmps36
    go_wp2
    go_ret
    exact ⟨rfl, World.grownBy.refl _ _⟩

/-- A thing's kind. -/
def kindOf (t : Int) : Nat := ((t % 18446744073709551616) % 3).toNat
theorem kind_lt (t : Int) : kindOf t < 3 := by unfold kindOf; omega
theorem kind_nat (t : Int) : ∃ U : Nat, IntKind.u64.wrap t = (U : Int) ∧ U % 3 = kindOf t := by
  rw [IntKind.wrap_u64]
  refine ⟨(t % 18446744073709551616).toNat, by rw [Int.toNat_of_nonneg (Int.emod_nonneg _ (by omega))], ?_⟩
  unfold kindOf
  omega
end Go.Proofs.Ytamgnpmkmlhadaa
