/- Contracts, over the turned program: undo.Read of any bytes. Conditions: those that each theorem states. -/
import Derived.Test.YtgfijbbibafdfaaGreatUWrite
import Derived.Test.YtgfijbbibafdfaaGreatMkB
namespace Go.Proofs.YtgfijbbibafdfaaGreat
open Go.RowKit
open Go.ChangeMaps (setBlock)
set_option linter.unusedVariables false

/-- Numbers of two bytes each, read one behind the other, and the error behind them. -/
def rdN : Nat → ByteArray → Int → List Int
  | 0, _, _ => []
  | n + 1, s, e => (val (rawR s e 2).data.toList : Int) :: rdN n (rawS s e 2) (rawE s e 2)
def rdE : Nat → ByteArray → Int → Int
  | 0, _, e => e
  | n + 1, s, e => rdE n (rawS s e 2) (rawE s e 2)
def cnt (s : ByteArray) : Nat := val (rawR s 0 1).data.toList
/-- The pages that bytes name, whether they are a directory's, what Read answers. -/
def pgs (s : ByteArray) : List Int := rdN (cnt s) (rawS s 0 1) (rawE s 0 1)
def rOk (s : ByteArray) : Bool := decide (wE (pgs s) = 0 ∧ wB (pgs s) = s.data.toList)
def rL (s : ByteArray) : List Int := if rOk s then pgs s else []
def rE (s : ByteArray) : Int := if rOk s then 0 else 10
theorem val_raw (s : ByteArray) (e : Int) (k : Nat) : val (rawR s e k).data.toList < 256 ^ k := by
  have h1 := val_lt (rawR s e k).data.toList
  have h2 : (rawR s e k).data.toList.length ≤ k := by
    rw [Array.length_toList]
    have := rawR_size s e k
    show (rawR s e k).size ≤ k
    omega
  exact Nat.lt_of_lt_of_le h1 (Nat.pow_le_pow_right (by omega) h2)
theorem cnt_lt (s : ByteArray) : cnt s < 256 := val_raw s 0 1
theorem val2_lt (s : ByteArray) (e : Int) : val (rawR s e 2).data.toList < 65536 := val_raw s e 2
theorem rawS_size (s : ByteArray) (e k : Int) : (rawS s e k).size ≤ s.size := by
  unfold rawS
  split
  · exact Nat.le_refl _
  · rw [ByteArray.size_extract]; omega
theorem rdN_len : ∀ (n : Nat) (s : ByteArray) (e : Int), (rdN n s e).length = n
  | 0, _, _ => rfl
  | n + 1, s, e => by simp [rdN, rdN_len n]
theorem rdN_i64 : ∀ (n : Nat) (s : ByteArray) (e : Int), i64s (rdN n s e)
  | 0, _, _ => fun z hz => by simp [rdN] at hz
  | n + 1, s, e => fun z hz => by
    rcases List.mem_cons.1 hz with rfl | hz
    · have := val2_lt s e; omega
    · exact rdN_i64 n _ _ z hz
theorem pgs_i64 (s : ByteArray) : i64s (pgs s) := rdN_i64 _ _ _
theorem pgs_len (s : ByteArray) : (pgs s).length = cnt s := rdN_len _ _ _
theorem rnum1_any (b : Nat) (s : ByteArray) (e : Int) (w : World) (h : Rd w b s e) (hs : s.size ≤ maxLen) :
    Calls Tryz.prog 62 #[.pointer (some ⟨b, 0, none⟩), .int .i64 1] w fun y w' => y = .returned (.int .u64 (val (rawR s e 1).data.toList)) ∧ Rd w' b (rawS s e 1) (rawE s e 1) ∧ w.grownBy w' (some b) := rnum_any b s e 1 w h hs
theorem rnum2_any (b : Nat) (s : ByteArray) (e : Int) (w : World) (h : Rd w b s e) (hs : s.size ≤ maxLen) :
    Calls Tryz.prog 62 #[.pointer (some ⟨b, 0, none⟩), .int .i64 2] w fun y w' => y = .returned (.int .u64 (val (rawR s e 2).data.toList)) ∧ Rd w' b (rawS s e 2) (rawE s e 2) ∧ w.grownBy w' (some b) := rnum_any b s e 2 w h hs
theorem Ow.cellAt {α : Type} {f : α → Value} {e : TypeId} {w : World} {base g n cap : Nat} {l : List α} (h : Ow f e w base (.slice (some ⟨g, 0, none⟩) n cap) l) (j : Nat) (hj : j < l.length) : w.cell? ⟨g, j, none⟩ = some (f l[j]) ∧ w.frozen? ⟨g, j, none⟩ = false := by
  have hn : n = l.length := by
    rcases h.2 with ⟨h1, _⟩ | ⟨g', cap', cur, h1, _⟩
    · cases h1
    · cases h1; rfl
  subst hn
  refine ⟨?_, World.ownsRow.frozenAt (g := g) (cap := cap) h j⟩
  rw [World.ownsRow.cellAt (g := g) (cap := cap) h j (by omega)]
  simp [hj]
theorem Ow.mono {α : Type} {f : α → Value} {e : TypeId} {w : World} {base base' : Nat} {v : Value} {l : List α} (h : Ow f e w base v l) (hb : base' ≤ base) : Ow f e w base' v l := by
  refine ⟨h.1, ?_⟩
  rcases h.2 with hn | ⟨g, cap, cur, rfl, hb2, rest⟩
  · exact .inl hn
  · exact .inr ⟨g, cap, cur, rfl, by omega, rest⟩
/-- make([]int, n). -/
theorem make_ints (w : World) (n : Nat) (hn : n ≤ 1000000) : ∃ wa, (Instr.makeSlice 38 (.int .i64 n) (.int .i64 n)).run Tryz.prog w = .ok (.slice (some ⟨w.heap.size, 0, none⟩) n n) wa ∧ Ow (Value.int .i64) 3 wa w.heap.size (.slice (some ⟨w.heap.size, 0, none⟩) n n) (List.replicate n 0) ∧ Kp none' w wa := by
  obtain ⟨i0, hi, hz0, hz1, hz2⟩ := info_parts infoI
  obtain ⟨wa, hmk, hOa, hga⟩ := run_make_full (P := Tryz.prog) w w.heap.size 38 3 i0 _ 1 Tryz.underlying38 hi hz0 hz1 .i64 .i64 n (by rw [hz2]; omega) (by unfold maxLen; omega) (Nat.le_refl _)
  refine ⟨wa, hmk, ?_, Kp.ofN hga _⟩
  have e : (madeCells (Value.int .i64 0).cells (n * 1)).toList = (List.replicate n (0 : Int)).map (Value.int .i64) := by
    show (madeCells #[Value.int .i64 0] (n * 1)).toList = _
    rw [toList_madeCells_one]
    simp
  unfold Ow
  rw [List.length_replicate, ← e]
  exact hOa

theorem set_next (pre : List Int) (m : Nat) (x : Int) : (pre ++ List.replicate (m + 1) 0).set pre.length x = (pre ++ [x]) ++ List.replicate m 0 := by
  rw [List.set_append_right _ _ (Nat.le_refl _), Nat.sub_self, List.replicate_succ, List.set_cons_zero, List.append_assoc]
  rfl

set_option maxRecDepth 100000 in
set_option maxHeartbeats 800000 in
theorem uread_any (s : ByteArray) (w : World) (hs : s.size ≤ maxLen) :
    Calls Tryz.prog 46 #[.string s] w fun e w' => ∃ v, e = .returned (.tuple #[v, .int .i64 (rE s)]) ∧ Ow (Value.int .i64) 3 w' w.heap.size v (rL s) ∧ Kp none' w w' := by
  have hR0 := Rd.new w s 0
  have hk0 := Kp.alloc none' w (.cells #[.string s, .int .i64 0] 111)
  obtain ⟨w0, H0⟩ : ∃ w0, Hid (w.alloc (.cells #[.string s, .int .i64 0] 111) = w0) := ⟨_, rfl⟩
  rw [H0.out] at hR0 hk0
  obtain ⟨rb, Hrb⟩ : ∃ rb, Hid (w.heap.size = rb) := ⟨_, rfl⟩
  rw [Hrb.out] at hR0
  obtain ⟨N, HN⟩ : ∃ N, Hid (cnt s = N) := ⟨_, rfl⟩
  have hN256 : N < 256 := by rw [← HN.out]; exact cnt_lt s
  obtain ⟨s1, Hs1⟩ : ∃ s1, Hid (rawS s 0 1 = s1) := ⟨_, rfl⟩
  obtain ⟨e1, He1⟩ : ∃ e1, Hid (rawE s 0 1 = e1) := ⟨_, rfl⟩
  have HP : Hid (pgs s = rdN N s1 e1) := by show _ = _; rw [← HN.out, ← Hs1.out, ← He1.out]; rfl
  have Hs1m : Hid (s1.size ≤ maxLen) := by show _ ≤ _; rw [← Hs1.out]; exact Nat.le_trans (rawS_size s 0 1) hs
  have HC : Hid (((val (rawR s 0 1).data.toList : Nat) : Int) = (N : Int)) := by show _ = _; rw [← HN.out]; rfl
  go_enter Tryz.func46, Tryz.ntmps46
  go_upto_region 2 with (go_at_call 61; refine (from_any _ _).mono ?_; rintro e w1 ⟨rfl, rfl⟩)
  rw [H0.out, Hrb.out]
  go_upto_region 3 with (first
    | (go_at_call 62; refine (rnum1_any rb s 0 _ hR0 hs).mono ?_; rintro e w2 ⟨rfl, hR2, hg2⟩; rw [HC.out]; rw [Hs1.out, He1.out] at hR2; obtain ⟨w3, hmk, hO3, hk3⟩ := make_ints w2 N (by omega))
    | (refine wpList_make_at rfl (.tmp 13) (.tmp 13) 38 rfl _ _ rfl rfl hmk ?_)
    | fail)
  have hk2 : Kp none' w w2 := hk0.trans (Kp.ofGrown hg2 (S := only rb) (fun k he _ => by cases he; rfl)) (fun _ _ h => h) (fun k hk he => absurd hk (by have := Hrb.out; unfold only at he; omega))
  have hlt2 := hR2.lt
  have hR3 := hR2.kept hk3.grown (by simp)
  have hk33 := hk2.then hk3
  clear hmk hR2 hk2 hg2 hR0 hk0 hk3
  generalize hgg : w2.heap.size = g at *
  go_wp2
  go_loopw [17] (fun t wr => ∃ (k : Nat) (pre : List Int) (q : ByteArray) (e : Int), k ≤ N ∧ t = .int .i64 k ∧ Hid (pre.length = k ∧ pre ++ rdN (N - k) q e = rdN N s1 e1 ∧ q.size ≤ maxLen) ∧ Ow (Value.int .i64) 3 wr g (.slice (some ⟨g, 0, none⟩) N N) (pre ++ List.replicate (N - k) 0) ∧ Rd wr rb q e ∧ Kp none' w wr) (fun t _ => N - (intOf t).toNat)
  case atStart => exact ⟨0, [], s1, e1, Nat.zero_le _, rfl, ⟨rfl, rfl, Hs1m.out⟩, hO3, hR3, hk33⟩
  case round =>
    obtain ⟨k, pre, q, e, hk, rfl, HI, hO, hR, hK⟩ := hrel
    clear hO3 hR3 hk33
    by_cases hlt : k < N
    · have hki : (k : Int) < (N : Int) := by omega
      obtain ⟨m, hm⟩ : ∃ m, N - k = m + 1 := ⟨N - k - 1, by omega⟩
      have Hm : Hid (N - (k + 1) = m) := by show _ = _; omega
      rw [hm] at hO
      obtain ⟨x, Hx⟩ : ∃ x, Hid (val (rawR q e 2).data.toList = x) := ⟨_, rfl⟩
      have hx6 : (x : Int) < 65536 := by have := val2_lt q e; rw [Hx.out] at this; omega
      have Hq2 : Hid ((rawS q e 2).size ≤ maxLen) := Nat.le_trans (rawS_size q e 2) HI.out.2.2
      have HI2 : Hid ((pre ++ [(x : Int)]).length = k + 1 ∧ (pre ++ [(x : Int)]) ++ rdN m (rawS q e 2) (rawE q e 2) = rdN N s1 e1) := by
        have h := HI.out
        rw [hm] at h
        refine ⟨by simp [h.1], ?_⟩
        rw [← h.2.1, ← Hx.out]
        simp [rdN]
      have Hl : Hid (pre.length = k) := HI.out.1
      have hne : g ≠ rb := by omega
      clear hm
      go_wp2_with (go_at_call 62; refine (rnum2_any rb q e _ hR HI.out.2.2).mono ?_; rintro e4 w4 ⟨rfl, hR4, hg4⟩; rw [Hx.out]; have hO4 := hO.kept (Kp.ofGrown hg4 (S := only rb) (fun k he _ => by cases he; rfl)) (fun z hz => by cases hz; exact hne); have hcl := hO4.cellAt k (by have := Hl.out; simp; omega); have hc1 := hcl.1; have hc2 := hcl.2)
      go_roundw
      case rel =>
        have hst := hO4.stored k (x : Int)
        have hK4 : Kp none' w w4 := hK.trans (Kp.ofGrown hg4 (S := only rb) (fun k he _ => by cases he; rfl)) (fun _ _ h => h) (fun k hk he => absurd hk (by have := Hrb.out; unfold only at he; omega))
        refine ⟨k + 1, pre ++ [(x : Int)], rawS q e 2, rawE q e 2, by omega, by go_num, ⟨HI2.out.1, by rw [Hm.out]; exact HI2.out.2, Hq2.out⟩, ?_, hR4.kept hst.2 (by simp; omega), hK4.trans (Kp.ofGrown hst.2 (S := only g) (fun k he _ => by cases he; rfl)) (fun _ _ h => h) (fun k hk he => absurd hk (by have := Hrb.out; unfold only at he; omega))⟩
        rw [Hm.out, ← set_next, Hl.out]
        exact hst.1
      case measure => simp [intOf]; omega
    · obtain rfl : k = N := by omega
      have hpre : pre = pgs s := by
        have h := HI.out.2.1
        rw [Nat.sub_self] at h
        simp only [rdN, List.append_nil] at h
        rw [h, HP.out]
      rw [Nat.sub_self, List.replicate_zero, List.append_nil, hpre] at hO
      have hlen : (pgs s).length = k := by rw [pgs_len, HN.out]
      obtain ⟨X, HX⟩ : ∃ X : ByteArray, Hid (⟨(wB (pgs s)).toArray⟩ = X) := ⟨_, rfl⟩
      have hXs : (X.data.toList = s.data.toList) ↔ wB (pgs s) = s.data.toList := by rw [← HX.out]
      obtain ⟨E, HE⟩ : ∃ E, Hid (wE (pgs s) = E) := ⟨_, rfl⟩
      go_upto_region 9 with (go_at_call 50; refine (uwrite_any _ _ _ _ hO.sl (pgs_i64 s)).mono ?_; rintro e5 w5 ⟨rfl, hk5⟩; rw [HX.out, HE.out])
      have HO := hide hO
      clear hO
      by_cases h0 : E = 0
      · subst h0
        by_cases hx : X.toList = s.toList
        · have hx' : (X.toList == s.toList) = true := by simpa using hx
          have HR : Hid (rE s = 0 ∧ rL s = pgs s) := by
            have : rOk s = true := by
              unfold rOk
              rw [HE.out]
              have := hXs.1 (by rw [← ByteArray.toList_eq, ← ByteArray.toList_eq]; exact hx)
              simp [this]
            exact ⟨by simp [rE, this], by simp [rL, this]⟩
          clear hx hXs
          go_wp2
          go_ret2
          rw [HR.out.1, HR.out.2]
          exact ⟨_, rfl, (HO.out.keptN hk5).mono (by have := Hrb.out; omega), hK.then hk5⟩
        · have hx' : (X.toList == s.toList) = false := by simpa using hx
          have HR : Hid (rE s = 10 ∧ rL s = []) := by
            have : rOk s = false := by
              unfold rOk
              rw [decide_eq_false_iff_not]
              rintro ⟨_, h⟩
              apply hx
              rw [ByteArray.toList_eq, ByteArray.toList_eq]
              exact hXs.2 h
            exact ⟨by simp [rE, this], by simp [rL, this]⟩
          clear hx hXs
          go_wp2
          go_ret2
          rw [HR.out.1, HR.out.2]
          exact ⟨_, rfl, Ow.nil _ _ _ _, hK.then hk5⟩
      · have hE0 : (E != 0) = true := by simpa using h0
        have HR : Hid (rE s = 10 ∧ rL s = []) := by
          have : rOk s = false := by unfold rOk; rw [HE.out]; simp [h0]
          exact ⟨by simp [rE, this], by simp [rL, this]⟩
        go_wp2
        go_ret2
        rw [HR.out.1, HR.out.2]
        exact ⟨_, rfl, Ow.nil _ _ _ _, hK.then hk5⟩

end Go.Proofs.YtgfijbbibafdfaaGreat
