/- Contracts, over the turned program: each method of a pack.Reader, of nil and of a reader that stands anywhere in any bytes, and pack.Str, pack.Fits, pack.From. Conditions: those that each theorem states. -/
import Derived.Test.YtgfijbbibafdfaaGreatLeaf
namespace Go.Proofs.YtgfijbbibafdfaaGreat
open Go.RowKit
set_option linter.unusedVariables false

/-- A reader in block b: the bytes s that are left, the first error e. -/
def Rd (w : World) (b : Nat) (s : ByteArray) (e : Int) : Prop := w.heap[b]? = some (.cells #[.string s, .int .i64 e] 111 (0, 0))
theorem Rd.c0 {w : World} {b : Nat} {s : ByteArray} {e : Int} (h : Rd w b s e) : w.cell? ⟨b, 0, none⟩ = some (.string s) := by
  rw [cell_of_row w b 0 _ 111 (0, 0) h]; rfl
theorem Rd.c1 {w : World} {b : Nat} {s : ByteArray} {e : Int} (h : Rd w b s e) : w.cell? ⟨b, 1, none⟩ = some (.int .i64 e) := by
  rw [cell_of_row w b 1 _ 111 (0, 0) h]; rfl
theorem Rd.fz {w : World} {b : Nat} {s : ByteArray} {e : Int} (h : Rd w b s e) (j : Nat) : w.frozen? ⟨b, j, none⟩ = false := by
  unfold World.frozen?
  rw [show w.heap[(⟨b, j, none⟩ : Addr).block]? = _ from h]
  simp
theorem Rd.lt {w : World} {b : Nat} {s : ByteArray} {e : Int} (h : Rd w b s e) : b < w.heap.size := (Array.getElem?_eq_some_iff.1 h).1
theorem Rd.kept {w w' : World} {b : Nat} {s : ByteArray} {e : Int} {row : Option Nat} (h : Rd w b s e) (hg : w.grownBy w' row) (hne : some b ≠ row) : Rd w' b s e := by
  unfold Rd
  rw [hg.block b h.lt hne]
  exact h
theorem Rd.new (w : World) (s : ByteArray) (e : Int) : Rd (w.alloc (.cells #[.string s, .int .i64 e] 111)) w.heap.size s e := heap_alloc_new w _

set_option maxHeartbeats 400000 in
theorem err_nil (w : World) : Calls Tryz.prog 98 #[.pointer none] w fun e w' => e = .returned (.int .i64 1) ∧ w' = w := by
  go_enter Tryz.func98, Tryz.ntmps98
  go_wp2
  go_ret
  exact ⟨rfl, rfl⟩
set_option maxHeartbeats 400000 in
theorem stopped_nil (w : World) : Calls Tryz.prog 87 #[.pointer none] w fun e w' => e = .returned (.bool true) ∧ w' = w := by
  go_enter Tryz.func87, Tryz.ntmps87
  go_wp2
  go_ret
  exact ⟨rfl, rfl⟩
set_option maxHeartbeats 400000 in
theorem raw_nil (k : Int) (w : World) : Calls Tryz.prog 70 #[.pointer none, .int .i64 k] w fun e w' => e = .returned (.string ByteArray.empty) ∧ w' = w := by
  go_enter Tryz.func70, Tryz.ntmps70
  go_wp2
  go_ret
  exact ⟨rfl, rfl⟩
set_option maxHeartbeats 400000 in
theorem err_any (b : Nat) (s : ByteArray) (e : Int) (w : World) (h : Rd w b s e) :
    Calls Tryz.prog 98 #[.pointer (some ⟨b, 0, none⟩)] w fun x w' => x = .returned (.int .i64 e) ∧ w' = w := by
  have h0 := h.c0
  have h1 := h.c1
  go_enter Tryz.func98, Tryz.ntmps98
  go_wp2
  go_ret
  exact ⟨rfl, rfl⟩
set_option maxHeartbeats 400000 in
theorem stopped_any (b : Nat) (s : ByteArray) (e : Int) (w : World) (h : Rd w b s e) :
    Calls Tryz.prog 87 #[.pointer (some ⟨b, 0, none⟩)] w fun x w' => x = .returned (.bool (e != 0)) ∧ w' = w := by
  go_enter Tryz.func87, Tryz.ntmps87
  go_wp2_with (go_at_call 98; refine (err_any _ _ _ _ h).mono ?_; rintro x w' ⟨rfl, rfl⟩)
  go_ret
  exact ⟨rfl, rfl⟩
def doneE (s : ByteArray) (e : Int) : Int := if e = 0 ∧ s.size ≠ 0 then 5 else e
set_option maxHeartbeats 400000 in
theorem fail_any (b : Nat) (s : ByteArray) (e x : Int) (w : World) (h : Rd w b s e) :
    Calls Tryz.prog 88 #[.pointer (some ⟨b, 0, none⟩), .int .i64 x] w fun y w' => y = .returned (.string ByteArray.empty) ∧ w' = w.setCell ⟨b, 1, none⟩ (.int .i64 x) := by
  have h0 := h.c0
  have h1 := h.c1
  have hz := h.fz 1
  go_enter Tryz.func88, Tryz.ntmps88
  go_wp2
  go_ret
  exact ⟨rfl, rfl⟩
set_option maxHeartbeats 400000 in
theorem step_any (b : Nat) (s : ByteArray) (e : Int) (k : Nat) (w : World) (h : Rd w b s e) (hk : k ≤ s.size) (hs : s.size ≤ maxLen) :
    Calls Tryz.prog 89 #[.pointer (some ⟨b, 0, none⟩), .int .i64 k] w fun y w' => y = .returned (.string (s.extract 0 k)) ∧ w' = w.setCell ⟨b, 0, none⟩ (.string (s.extract k s.size)) := by
  have h0 := h.c0
  have h1 := h.c1
  have hz := h.fz 0
  unfold maxLen at hs
  go_enter Tryz.func89, Tryz.ntmps89
  go_wp2
  go_ret
  exact ⟨rfl, rfl⟩
theorem step_one (b : Nat) (s : ByteArray) (e : Int) (n : Nat) (w : World) (h : Rd w b s e) (hk : n < s.size) (hs : s.size ≤ maxLen) :
    Calls Tryz.prog 89 #[.pointer (some ⟨b, 0, none⟩), .int .i64 (1 + (n : Int))] w fun y w' => y = .returned (.string (s.extract 0 (1 + n))) ∧ w' = w.setCell ⟨b, 0, none⟩ (.string (s.extract (1 + n) s.size)) := by
  have := step_any b s e (1 + n) w h (by omega) hs
  rw [show ((1 + n : Nat) : Int) = 1 + (n : Int) from by omega] at this
  exact this
set_option maxHeartbeats 400000 in
theorem from_any (s : ByteArray) (w : World) :
    Calls Tryz.prog 61 #[.string s] w fun y w' => y = .returned (.pointer (some ⟨w.heap.size, 0, none⟩)) ∧ w' = w.alloc (.cells #[.string s, .int .i64 0] 111) := by
  go_enter Tryz.func61, Tryz.ntmps61
  go_wp2
  go_ret
  exact ⟨rfl, rfl⟩
def fitsB (n : Nat) (k : Int) : Bool := decide (n < 2 ^ (8 * wid k))
theorem fits_eq (n : Nat) (k : Int) : ((n : Int) / 2 ^ (8 * wid k) == 0) = fitsB n k := by
  unfold fitsB
  rw [Bool.eq_iff_iff, beq_iff_eq, decide_eq_true_iff]
  have h2 : 0 < 2 ^ (8 * wid k) := Nat.two_pow_pos _
  have e : (n : Int) / 2 ^ (8 * wid k) = ((n / 2 ^ (8 * wid k) : Nat) : Int) := by simp
  rw [e]
  constructor
  · intro h
    have h' : n / 2 ^ (8 * wid k) = 0 := by omega
    exact (Nat.div_eq_zero_iff_lt h2).1 h'
  · intro h
    rw [Nat.div_eq_of_lt h]
    rfl
set_option maxHeartbeats 400000 in
theorem fits_any (n : Nat) (k : Int) (w : World) (hn : (n : Int) < 18446744073709551616) :
    Calls Tryz.prog 72 #[.int .u64 n, .int .i64 k] w fun y w' => y = .returned (.bool (fitsB n k)) ∧ w' = w := by
  have hlo := wid_lo k
  have hhi := wid_hi k
  have Hn : Hid ((n : Int) < 18446744073709551616) := hn
  clear hn
  go_enter Tryz.func72, Tryz.ntmps72
  go_wp2_with (go_at_call 71; refine (width_any _ _).mono ?_; rintro e w' ⟨rfl, rfl⟩)
  go_ret
  exact ⟨congrArg (fun x => Ending.returned (Value.bool x)) (fits_eq n k), rfl⟩

theorem Rd.set1 {w : World} {b : Nat} {s : ByteArray} {e : Int} (h : Rd w b s e) (x : Int) : Rd (w.setCell ⟨b, 1, none⟩ (.int .i64 x)) b s x ∧ w.grownBy (w.setCell ⟨b, 1, none⟩ (.int .i64 x)) (some b) := by
  refine ⟨?_, ⟨rfl, rfl, rfl, by simp, fun k _ hk => heap_setCell_other w _ k _ (fun hb => hk (by simp [hb]))⟩⟩
  unfold Rd
  rw [heap_setCell_same w b 1 _ 111 _ h]
  rfl
theorem Rd.set0 {w : World} {b : Nat} {s : ByteArray} {e : Int} (h : Rd w b s e) (x : ByteArray) : Rd (w.setCell ⟨b, 0, none⟩ (.string x)) b x e ∧ w.grownBy (w.setCell ⟨b, 0, none⟩ (.string x)) (some b) := by
  refine ⟨?_, ⟨rfl, rfl, rfl, by simp, fun k _ hk => heap_setCell_other w _ k _ (fun hb => hk (by simp [hb]))⟩⟩
  unfold Rd
  rw [heap_setCell_same w b 0 _ 111 _ h]
  rfl

/-- What Raw answers, what is left, the error: of the bytes s, the error e, and k. -/
def rawR (s : ByteArray) (e k : Int) : ByteArray := if e ≠ 0 ∨ k < 0 ∨ (s.size : Int) < k then ByteArray.empty else s.extract 0 k.toNat
def rawS (s : ByteArray) (e k : Int) : ByteArray := if e ≠ 0 ∨ k < 0 ∨ (s.size : Int) < k then s else s.extract k.toNat s.size
def rawE (s : ByteArray) (e k : Int) : Int := if e ≠ 0 then e else if (s.size : Int) < k then 2 else 0

set_option maxHeartbeats 400000 in
theorem raw_any (b : Nat) (s : ByteArray) (e k : Int) (w : World) (h : Rd w b s e) (hs : s.size ≤ maxLen) :
    Calls Tryz.prog 70 #[.pointer (some ⟨b, 0, none⟩), .int .i64 k] w fun y w' => y = .returned (.string (rawR s e k)) ∧ Rd w' b (rawS s e k) (rawE s e k) ∧ w.grownBy w' (some b) := by
  have h0 := h.c0
  have h1 := h.c1
  by_cases he : e = 0
  · subst he
    by_cases hk : k < 0
    · have e1 : rawR s 0 k = ByteArray.empty := by simp [rawR, hk]
      have e2 : rawS s 0 k = s := by simp [rawS, hk]
      have e3 : rawE s 0 k = 0 := by unfold rawE; simp; omega
      rw [e1, e2, e3]
      clear e1 e2 e3
      go_enter Tryz.func70, Tryz.ntmps70
      go_wp2_with (go_at_call 87; refine (stopped_any _ _ _ _ h).mono ?_; rintro x w' ⟨rfl, rfl⟩)
      go_ret
      exact ⟨rfl, h, World.grownBy.refl _ _⟩
    · by_cases hl : (s.size : Int) < k
      · have e1 : rawR s 0 k = ByteArray.empty := by simp [rawR, hl]
        have e2 : rawS s 0 k = s := by simp [rawS, hl]
        have e3 : rawE s 0 k = 2 := by simp [rawE, hl]
        rw [e1, e2, e3]
        clear e1 e2 e3
        go_enter Tryz.func70, Tryz.ntmps70
        go_wp2_with (first | (go_at_call 87; refine (stopped_any _ _ _ _ h).mono ?_; rintro x w' ⟨rfl, rfl⟩) | (go_at_call 88; refine (fail_any _ _ _ _ _ h).mono ?_; rintro x w' ⟨rfl, rfl⟩))
        go_ret
        exact ⟨rfl, (h.set1 2).1, (h.set1 2).2⟩
      · obtain ⟨m, rfl⟩ := Int.eq_ofNat_of_zero_le (by omega : 0 ≤ k)
        have hm : m ≤ s.size := by omega
        have e1 : rawR s 0 m = s.extract 0 m := by unfold rawR; rw [if_neg (by omega)]; simp
        have e2 : rawS s 0 m = s.extract m s.size := by unfold rawS; rw [if_neg (by omega)]; simp
        have e3 : rawE s 0 m = 0 := by unfold rawE; simp; omega
        rw [e1, e2, e3]
        clear e1 e2 e3
        go_enter Tryz.func70, Tryz.ntmps70
        go_wp2_with (first | (go_at_call 87; refine (stopped_any _ _ _ _ h).mono ?_; rintro x w' ⟨rfl, rfl⟩) | (go_at_call 89; refine (step_any _ _ _ m _ h hm hs).mono ?_; rintro x w' ⟨rfl, rfl⟩))
        go_ret
        exact ⟨rfl, (h.set0 _).1, (h.set0 _).2⟩
  · have e1 : rawR s e k = ByteArray.empty := by simp [rawR, he]
    have e2 : rawS s e k = s := by simp [rawS, he]
    have e3 : rawE s e k = e := by simp [rawE, he]
    rw [e1, e2, e3]
    have he' : (e != 0) = true := by simp [he]
    clear e1 e2 e3 he
    go_enter Tryz.func70, Tryz.ntmps70
    go_wp2_with (go_at_call 87; refine (stopped_any _ _ _ _ h).mono ?_; rintro x w' ⟨rfl, rfl⟩)
    go_ret
    exact ⟨rfl, h, World.grownBy.refl _ _⟩

/-- The number that bytes are. -/
def val (l : List UInt8) : Nat := l.foldl (fun a b => a * 256 + b.toNat) 0
theorem val_snoc (l : List UInt8) (c : UInt8) : val (l ++ [c]) = val l * 256 + c.toNat := by simp [val]
theorem fold_lt (l : List UInt8) : ∀ a : Nat, l.foldl (fun a b => a * 256 + b.toNat) a < (a + 1) * 256 ^ l.length := by
  induction l with
  | nil => intro a; simp
  | cons c l ih =>
    intro a
    have h := ih (a * 256 + c.toNat)
    have hc := c.toNat_lt
    have h2 : (a * 256 + c.toNat + 1) * 256 ^ l.length ≤ ((a + 1) * 256) * 256 ^ l.length := Nat.mul_le_mul_right _ (by omega)
    simp only [List.foldl_cons, List.length_cons, Nat.pow_succ]
    refine Nat.lt_of_lt_of_le h (Nat.le_trans h2 (Nat.le_of_eq ?_))
    rw [Nat.mul_assoc, Nat.mul_comm 256]
theorem val_lt (l : List UInt8) : val l < 256 ^ l.length := by have := fold_lt l 0; simpa [val] using this
theorem take_snoc (s : ByteArray) (k : Nat) (h : k < s.size) : s.data.toList.take (k + 1) = s.data.toList.take k ++ [s[k]] := by
  rw [List.take_succ_eq_append_getElem (by simpa using h)]; rfl
theorem or_step (x : Nat) (c : UInt8) (hx : x < 72057594037927936) : bits .or .u64 (IntKind.u64.wrap ((x : Int) * 256)) (IntKind.u64.wrap (c.toNat : Int)) = ((x * 256 + c.toNat : Nat) : Int) := by
  have hc := c.toNat_lt
  have e1 : IntKind.u64.wrap ((x : Int) * 256) = ((x * 256 : Nat) : Int) := by rw [IntKind.wrap_u64]; omega
  have e2 : IntKind.u64.wrap (c.toNat : Int) = (c.toNat : Int) := by rw [IntKind.wrap_u64]; omega
  rw [e1, e2, u64_or_nat _ _ (by omega) (by omega), nat_join 8 (x * 256) c.toNat (by omega) (by omega)]
theorem rawR_size (s : ByteArray) (e k : Int) : ((rawR s e k).size : Int) ≤ k ∨ (rawR s e k).size = 0 := by
  unfold rawR
  split
  · exact .inr rfl
  · left; rw [ByteArray.size_extract]; omega

set_option maxRecDepth 100000 in
set_option maxHeartbeats 400000 in
theorem rnum_any (b : Nat) (s : ByteArray) (e k : Int) (w : World) (h : Rd w b s e) (hs : s.size ≤ maxLen) :
    Calls Tryz.prog 62 #[.pointer (some ⟨b, 0, none⟩), .int .i64 k] w fun y w' => y = .returned (.int .u64 (val (rawR s e (wid k)).data.toList)) ∧ Rd w' b (rawS s e (wid k)) (rawE s e (wid k)) ∧ w.grownBy w' (some b) := by
  have hlo := wid_lo k
  have hhi := wid_hi k
  obtain ⟨r, hr⟩ : ∃ r, r = rawR s e (wid k) := ⟨_, rfl⟩
  have hrs : r.size ≤ 8 := by rw [hr]; have := rawR_size s e (wid k); omega
  rw [← hr]
  have Hr : Hid (r = rawR s e (wid k)) := hr
  clear hr
  go_enter Tryz.func62, Tryz.ntmps62
  go_wp2_with (first | (go_at_call 71; refine (width_any _ _).mono ?_; rintro e w' ⟨rfl, rfl⟩) | (go_at_call 70; refine (raw_any _ _ _ _ _ h hs).mono ?_; rintro x w1 ⟨rfl, hR, hG⟩; rw [← Hr.out]))
  go_loop [5, 14] (fun n i => ∃ j : Nat, j ≤ r.size ∧ i = .int .i64 j ∧ n = .int .u64 (val (r.data.toList.take j))) (fun _ i => r.size - (intOf i).toNat)
  case atStart => exact ⟨0, Nat.zero_le _, rfl, rfl⟩
  case round =>
    obtain ⟨j, hj, rfl, rfl⟩ := hrel
    by_cases hlt : j < r.size
    · have Ht : Hid (val (r.data.toList.take (j + 1)) = val (r.data.toList.take j) * 256 + r[j].toNat) := by rw [take_snoc r j hlt]; exact val_snoc _ _
      have Hx : Hid (val (r.data.toList.take j) < 72057594037927936) := by
        have h1 := val_lt (r.data.toList.take j)
        have h2 : (r.data.toList.take j).length ≤ 7 := by simp; omega
        exact Nat.lt_of_lt_of_le h1 (Nat.le_trans (Nat.pow_le_pow_right (by omega) h2) (by omega))
      go_wp2
      go_round
      case rel => exact ⟨j + 1, by omega, by go_num, by rw [or_step _ _ Hx.out, Ht.out]⟩
      case measure => simp [intOf]; omega
    · have Ht : Hid (r.data.toList.take j = r.data.toList) := List.take_of_length_le (by simp; omega)
      go_wp2
      go_ret
      exact ⟨congrArg (fun l => Ending.returned (Value.int .u64 ((val l : Nat) : Int))) Ht.out, hR, hG⟩

/-- What Str answers, what is left, the error. -/
def strN (s : ByteArray) : Nat := s.data.toList.headD 0 |>.toNat
def strOk (s : ByteArray) (e most : Int) : Bool := decide (e = 0 ∧ 0 < s.size ∧ (strN s : Int) ≤ most ∧ strN s < s.size)
def strR (s : ByteArray) (e most : Int) : ByteArray := if strOk s e most then s.extract 1 (1 + strN s) else ByteArray.empty
def strS (s : ByteArray) (e most : Int) : ByteArray := if strOk s e most then s.extract (1 + strN s) s.size else s
def strE (s : ByteArray) (e most : Int) : Int := if e ≠ 0 then e else if s.size = 0 then 2 else if most < (strN s : Int) then 3 else if s.size ≤ strN s then 2 else 0
theorem strN_eq (s : ByteArray) (h : 0 < s.size) : (s[0].toNat : Int) = (strN s : Int) := by
  have hl : 0 < s.data.toList.length := by simpa using h
  have : s.data.toList.headD 0 = s[0] := by
    cases hd : s.data.toList with
    | nil => rw [hd] at hl; simp at hl
    | cons c r =>
      show c = s.data[0]
      have e0 : s.data.toList[0] = c := by simp [hd]
      rw [← e0]; rfl
  unfold strN
  rw [this]

theorem ext_list (s : ByteArray) (a b : Nat) : (s.extract a b).data.toList = (s.data.toList.drop a).take (b - a) := by
  rw [ByteArray.data_extract]
  simp [List.extract]
theorem ext_ext (s : ByteArray) (n : Nat) (h : n < s.size) : (s.extract 0 (1 + n)).extract 1 (min (1 + n) s.size) = s.extract 1 (1 + n) := by
  apply ByteArray.ext
  apply Array.ext'
  rw [ext_list, ext_list, ext_list]
  rw [show min (1 + n) s.size = 1 + n by omega]
  simp only [List.drop_zero, Nat.sub_zero]
  rw [List.drop_take, List.take_take, Nat.min_self]

/-- A text's bytes: its length, cut to 255, and as many of it. -/
def strB (l : List UInt8) : List UInt8 := UInt8.ofNat (min l.length 255) :: l.take 255
theorem strB_len (l : List UInt8) : (strB l).length ≤ 256 := by simp [strB]; omega

end Go.Proofs.YtgfijbbibafdfaaGreat
