/- The walk of TextOnly, over any text of at most 1048576 bytes and the variables as they lie in memory. -/
import Derived.Test.YtihfnnabafnmlaaDoorJTo
import Derived.Test.YtihfnnabafnmlaaDoorJRb
namespace Go.Proofs.YtihfnnabafnmlaaDoor.textOnly
open Go.RowKit
set_option linter.unusedVariables false

theorem codes : ∀ (ls : List (List UInt8)) (k : Nat) (i : Int) (e : Int × Int), rdT k i ls = .error e → e.2 = 15 ∨ e.2 = 3
  | [], k, i, e, h => by cases k <;> cases h
  | l :: r, k, i, e, h => by
    by_cases hw : wordsL l = []
    · rw [rdT_none k i l r (by rw [hw]; rfl)] at h
      exact codes r k (i + 1) e h
    · cases hu : instU (wordsL l) with
      | none => rw [rdT_bad k i l r (ne_empty hw) hu] at h; cases h; exact .inl rfl
      | some x =>
        cases k with
        | zero => rw [rdT_long i l r (ne_empty hw) x hu] at h; cases h; exact .inr rfl
        | succ k =>
          rw [rdT_ok k i l r (ne_empty hw) x hu] at h
          cases hr : rdT k (i + 1) r with
          | ok m => rw [hr] at h; cases h
          | error e' => rw [hr] at h; cases h; exact codes r k (i + 1) e hr
theorem app_nil (A : ByteArray) : A ++ mkB (joinW (([] : List (List UInt8)))) = A := by
  show A ++ mkB [] = A
  rw [← mkB_self A, mkB_append, List.append_nil]
theorem joinW_more : ∀ (l : List (List UInt8)) (w : List UInt8), joinW (l ++ [w]) = (if l = [] then [] else joinW l ++ [32]) ++ w
  | [], w => rfl
  | [v], w => by simp [joinW]
  | v :: u :: r, w => by
    have h := joinW_more (u :: r) w
    rw [if_neg (by simp)] at h ⊢
    show v ++ 32 :: joinW ((u :: r) ++ [w]) = _
    rw [h]
    show _ = (v ++ 32 :: joinW (u :: r)) ++ [32] ++ w
    simp
theorem joinW_most (m : Nat) : ∀ (ws : List (List UInt8)), (∀ w ∈ ws, w.length ≤ m) → (joinW ws).length ≤ (m + 1) * ws.length
  | [], _ => by simp [joinW]
  | [w], h => by have := h w (by simp); simp only [joinW, List.length_cons, List.length_nil]; omega
  | w :: v :: r, h => by
    have h1 := h w (by simp)
    have h2 := joinW_most m (v :: r) (fun x hx => h x (by simp only [List.mem_cons] at hx ⊢; exact .inr hx))
    simp only [joinW, List.length_append, List.length_cons, Nat.mul_add, Nat.mul_one] at h2 ⊢
    omega
theorem words_count (s : List UInt8) : (wordsL s).length ≤ s.length + 1 := Nat.le_trans (List.length_filter_le _ _) (split_len 32 s)
theorem line_most (s : List UInt8) (h : s.length ≤ 1048576) (m : Nat) : (joinW ((wordsL s).take m)).length ≤ 1099513724929 := by
  have h1 := joinW_most s.length ((wordsL s).take m) (fun w hw => words_mem_len s w (List.mem_of_mem_take hw))
  have h2 := words_count s
  have h3 : ((wordsL s).take m).length ≤ (wordsL s).length := by rw [List.length_take]; omega
  have h4 : (s.length + 1) * ((wordsL s).take m).length ≤ 1048577 * 1048577 := Nat.mul_le_mul (by omega) (by omega)
  omega
theorem wantT_snoc (a : List (List UInt8)) (l : List UInt8) : wantT (a ++ [l]) = wantT a ++ (if (wordsL l).isEmpty then [] else joinW (wordsL l) ++ [10]) := by simp [wantT]
theorem want_most : ∀ (ls : List (List UInt8)), (∀ l ∈ ls, l.length ≤ 1048576) → (wantT ls).length ≤ 1099513724930 * ls.length
  | [], _ => by simp [wantT]
  | l :: r, h => by
    have h1 := line_most l (h l (by simp)) (wordsL l).length
    rw [List.take_length] at h1
    have h2 := want_most r (fun x hx => h x (by simp [hx]))
    have e : wantT (l :: r) = (if (wordsL l).isEmpty then [] else joinW (wordsL l) ++ [10]) ++ wantT r := by simp [wantT]
    rw [e, List.length_append, List.length_cons, Nat.mul_add, Nat.mul_one]
    have h3 : (if (wordsL l).isEmpty then [] else joinW (wordsL l) ++ [10]).length ≤ 1099513724930 := by
      split
      · simp
      · rw [List.length_append, List.length_singleton]; omega
    omega

set_option maxRecDepth 100000 in
set_option maxHeartbeats 2000000 in
theorem walk_err (S : List UInt8) (W : World) (hs : S.length ≤ 1048576) (hG : G14 W) (n c : Int) (hR : rdT 64 0 (splitC 10 S) = .error (n, c)) :
    Calls Tryd.prog 4 #[.string (mkB S)] W fun e W' => e = .returned (.bool true) ∧ W.grownBy W' none := by
  have Hrd : Hid (∀ W0, G14 W0 → Calls Tryd.prog 8 #[.string (mkB S)] W0 fun e w' => ∃ a k, e = .returned (.tuple #[.slice a 0 k, .int .i64 n, .int .i64 c]) ∧ W0.grownBy w' none) := by
    intro W0 hg
    refine (tread_any S W0 (by omega) hg).mono ?_
    rintro e w' ⟨v, rfl, hO, hg⟩
    rw [hR] at hO ⊢
    have hO2 : w'.ownsRow W0.heap.size 39 7 v ([] : List In).length (ics []) := hO
    obtain ⟨a, k, rfl⟩ := row_slice hO2
    exact ⟨a, k, rfl, hg⟩
  have hc : (c != 0) = true := by
    rcases codes _ _ _ _ hR with h | h
    · have h : c = 15 := h
      rw [h]; rfl
    · have h : c = 3 := h
      rw [h]; rfl
  have HG := hide hG
  clear hG hR
  go_enter Tryd.func4, Tryd.ntmps4
  go_wp2_with (first
    | (go_at_call 6; refine (tlives_any _ HG.out).mono ?_; rintro e w1 ⟨rfl, hg1⟩)
    | (go_at_call 8; refine (Hrd.out _ (HG.out.keptN hg1)).mono ?_; rintro e w2 ⟨a2, k2, rfl, hg2⟩))
  go_ret
  exact ⟨rfl, grown_up hg1 hg2⟩

set_option maxRecDepth 100000 in
set_option maxHeartbeats 2000000 in
theorem walk_ok (S : List UInt8) (W : World) (hs : S.length ≤ 1048576) (hG : G14 W) (l : List In) (hR : rdT 64 0 (splitC 10 S) = .ok l) :
    Calls Tryd.prog 4 #[.string (mkB S)] W fun e W' => e = .returned (.bool true) ∧ W.grownBy W' none := by
  obtain ⟨q1, q2, q3, q4⟩ := rdT_only _ _ _ _ hR
  have hwi : wiOk l = true := by unfold wiOk; rw [q2, decide_eq_true q3]; rfl
  have Hrd : Hid (∀ W0, G14 W0 → Calls Tryd.prog 8 #[.string (mkB S)] W0 fun e w' => ∃ v, e = .returned (.tuple #[v, .int .i64 0, .int .i64 0]) ∧ Ins w' v l ∧ W0.grownBy w' none) := by
    intro W0 hg
    refine (tread_any S W0 (by omega) hg).mono ?_
    rintro e w' ⟨v, rfl, hO, hg⟩
    rw [hR] at hO ⊢
    have hO2 : OwnI w' W0.heap.size v l := hO
    exact ⟨v, rfl, hO2.ins, hg⟩
  have Hwr : Hid (∀ W0 v, Ins W0 v l → G14 W0 → Calls Tryd.prog 7 #[v] W0 fun e w' => e = .returned (.tuple #[.string (mkB (wantT (splitC 10 S))), .int .i64 0]) ∧ W0.grownBy w' none) := by
    intro W0 v hI hg
    have h := twrite_any v l W0 hI q4 hg
    have e1 : wiE l = 0 := (wiE_ok l).2 hwi
    have e2 : wtB l = wantT (splitC 10 S) := by unfold wtB; rw [hwi, if_pos rfl, q1]
    rw [e1, e2] at h
    exact h
  have Hsp : Hid (∀ W0, Calls Tryd.prog 10 #[.string (mkB S), .int .u8 10] W0 fun e w' => ∃ q off c, e = .returned (.slice (some ⟨q, off, none⟩) (splitC 10 S).length c) ∧ q < w'.heap.size ∧ Wc w' q off (splitC 10 S) ∧ W0.grownBy w' none) := by
    intro W0
    have h := rsplit14_any (mkB S) 10 W0 (by rw [mkB_size]; omega)
    rw [mkB_list] at h
    refine h.mono ?_
    rintro e w' ⟨v, rfl, hO, hk⟩
    have hS : Wds w' v (splitC 10 S) := hO.sl
    obtain ⟨q, off, c, rfl, hq, hW⟩ := hS.open (splitC_ne 10 S)
    exact ⟨q, off, c, rfl, hq, hW, hk.grown⟩
  have HT : Hid (∀ x ∈ splitC 10 S, x.length ≤ 1048576) := fun x hx => Nat.le_trans (split_mem_len 10 S x hx) hs
  have hn : (splitC 10 S).length ≤ 1048577 := Nat.le_trans (split_len 10 S) (by omega)
  have HG := hide hG
  clear hG hR q1 q2 q3 q4 hwi hs
  generalize hZ : splitC 10 S = Z at *
  obtain ⟨N, HN⟩ : ∃ N, Hid (Z.length = N) := ⟨_, rfl⟩
  rw [HN.out] at hn Hsp
  clear hZ
  go_enter Tryd.func4, Tryd.ntmps4
  go_wp2_with (first
    | (go_at_call 6; refine (tlives_any _ HG.out).mono ?_; rintro e w1 ⟨rfl, hg1⟩)
    | (go_at_call 8; refine (Hrd.out _ (HG.out.keptN hg1)).mono ?_; rintro e w2 ⟨v2, rfl, hI, hg2⟩; have hg3 := grown_up hg1 hg2)
    | (go_at_call 7; refine (Hwr.out _ _ hI (HG.out.keptN hg3)).mono ?_; rintro e w3 ⟨rfl, hg4⟩; have hg5 := grown_up hg3 hg4)
    | (go_at_call 10; refine (Hsp.out _).mono ?_; rintro e w4 ⟨q, off, c, rfl, hq, hW, hg6⟩; have hg7 := grown_up hg5 hg6))
  have HW := hide hW
  have Hq := hide hq
  clear hI hg1 hg2 hg3 hg4 hg5 hg6 hW hq
  have HF : Hid (mkB (wantT Z) = mkB (wantT (Z.take N))) := by show _ = _; rw [← HN.out, List.take_length]
  obtain ⟨FF, HFF⟩ : ∃ F, Hid (mkB (wantT Z) = F) := ⟨_, rfl⟩
  rw [HFF.out]
  go_loopw [8, 10] (fun wt i wr => ∃ (j : Nat) (A : ByteArray), j ≤ N ∧ i = .int .i64 j ∧ wt = .string A ∧ Hid (A = mkB (wantT (Z.take j))) ∧ w4.grownBy wr none) (fun _ i _ => N - (intOf i).toNat)
  case atStart => exact ⟨0, ⟨#[]⟩, Nat.zero_le _, rfl, rfl, rfl, World.grownBy.refl _ _⟩
  case round =>
    obtain ⟨j, A, hj, rfl, rfl, HA, hg⟩ := hrel
    by_cases hlt : j < N
    · have hcell : wr.cell? ⟨q, off + j, none⟩ = some (.string (mkB (Z.getD j []))) := HW.out.kept Hq.out hg j (by rw [HN.out]; exact hlt)
      have hmem : Z.getD j [] ∈ Z := by
        have : j < Z.length := by rw [HN.out]; exact hlt
        rw [List.getD_eq_getElem?_getD, List.getElem?_eq_getElem this]
        exact List.getElem_mem this
      have HTk : Hid (Z.take (j + 1) = Z.take j ++ [Z.getD j []]) := by
        have : j < Z.length := by rw [HN.out]; exact hlt
        show _ = _
        rw [List.take_succ_eq_append_getElem this, List.getD_eq_getElem?_getD, List.getElem?_eq_getElem this]
        rfl
      have HL := hide (HT.out _ hmem)
      have HAm : Hid (A.size ≤ 1099513724930 * 1048577) := by
        have h1 := want_most (Z.take j) (fun x hx => HT.out x (List.mem_of_mem_take hx))
        show _ ≤ _
        rw [HA.out, mkB_size]
        refine Nat.le_trans h1 (Nat.mul_le_mul (Nat.le_refl _) ?_)
        rw [List.length_take]
        omega
      generalize Z.getD j [] = L at *
      have Hwd : Hid (∀ W0, Calls Tryd.prog 11 #[.string (mkB L)] W0 fun e w' => ∃ a c, e = .returned (.slice a (wordsL L).length c) ∧ Wds w' (.slice a (wordsL L).length c) (wordsL L) ∧ W0.grownBy w' none) := by
        intro W0
        have h := rwords_any (mkB L) W0 (by rw [mkB_size]; have := HL.out; omega)
        rw [mkB_list] at h
        refine h.mono ?_
        rintro e w' ⟨v, rfl, hO, hk⟩
        have hS : Wds w' v (wordsL L) := hO.sl
        obtain ⟨a, c, e, _⟩ := hO.open
        rw [List.length_map] at e
        subst e
        exact ⟨a, c, rfl, hS, hk.grown⟩
      have HX : Hid (∀ k w, (wordsL L)[k]? = some w → joinW ((wordsL L).take (k + 1)) = (if k = 0 then [] else joinW ((wordsL L).take k) ++ [32]) ++ w) := by
        intro k w hk
        obtain ⟨hlt, e⟩ := List.getElem?_eq_some_iff.1 hk
        rw [List.take_succ_eq_append_getElem hlt, e, joinW_more]
        by_cases h0 : k = 0
        · subst h0; rfl
        · rw [if_neg h0, if_neg (by intro h; have h5 := congrArg List.length h; rw [List.length_take, List.length_nil] at h5; omega)]
      have HM : Hid (∀ k, (joinW ((wordsL L).take k)).length ≤ 1099513724929) := line_most L HL.out
      have HWT : Hid (wantT (Z.take (j + 1)) = wantT (Z.take j) ++ (if (wordsL L).isEmpty then [] else joinW ((wordsL L).take (wordsL L).length) ++ [10])) := by
        show _ = _
        rw [HTk.out, wantT_snoc, List.take_length]
      have HWM : Hid (∀ x ∈ wordsL L, x.length ≤ 1048576) := fun x hx => Nat.le_trans (words_mem_len L x hx) HL.out
      have hwc : (wordsL L).length ≤ 1048577 := by have := words_count L; have := HL.out; omega
      generalize wordsL L = ws at *
      obtain ⟨n, Hn⟩ : ∃ n, Hid (ws.length = n) := ⟨_, rfl⟩
      rw [Hn.out] at Hwd HWT hwc
      clear hmem HTk
      go_wp2_with (go_at_call 11; refine (Hwd.out _).mono ?_; rintro e w5 ⟨a5, c5, rfl, hS5, hg5⟩)
      have HS5 := hide hS5
      clear hS5
      go_loopw [8, 12] (fun wt i wr2 => ∃ (k : Nat) (B : ByteArray), k ≤ n ∧ i = .int .i64 k ∧ wt = .string B ∧ Hid (B = A ++ mkB (joinW (ws.take k))) ∧ wr2 = w5) (fun _ i _ => n - (intOf i).toNat)
      case atStart => exact ⟨0, A, Nat.zero_le _, rfl, rfl, (app_nil A).symm, rfl⟩
      case round =>
        obtain ⟨k, B, hk, rfl, rfl, HB, hw5⟩ := hrel
        subst hw5
        have HBm : Hid (B.size ≤ 1099513724930 * 1048577 + 1099513724929) := by
          show _ ≤ _
          rw [HB.out, ByteArray.size_append, mkB_size]
          have := HAm.out
          have := HM.out k
          omega
        by_cases hkn : k < n
        · have hkl : k < ws.length := by rw [Hn.out]; exact hkn
          obtain ⟨q5, off5, c5', e5, hq5, hW5⟩ := HS5.out.open (by intro h; rw [h] at hkl; simp at hkl)
          obtain ⟨e6, _, _⟩ := Value.slice.inj e5
          have hcw := hW5 k hkl
          have hXm : (mkB (ws.getD k [])).size ≤ 1048576 := by
            rw [mkB_size, List.getD_eq_getElem?_getD, List.getElem?_eq_getElem hkl]
            exact HWM.out _ (List.getElem_mem hkl)
          have HJ := hide (HX.out k (ws.getD k []) (by rw [List.getD_eq_getElem?_getD, List.getElem?_eq_getElem hkl]; rfl))
          obtain ⟨Y, HY⟩ : ∃ Y, Hid (ws.getD k [] = Y) := ⟨_, rfl⟩
          rw [HY.out] at HJ hXm hcw
          obtain ⟨X, HXX⟩ : ∃ X, Hid (mkB Y = X) := ⟨_, rfl⟩
          rw [HXX.out] at hXm hcw
          have hB := HBm.out
          have t0 : ¬ 9223372036854775807 < B.size + X.size := by omega
          have t1 : ¬ 9223372036854775807 < B.size + 1 := by omega
          have t2 : ¬ 9223372036854775807 < B.size + 1 + X.size := by omega
          have t3 : ¬ 9223372036854775807 < (B ++ (⟨#[32]⟩ : ByteArray)).size + X.size := by rw [ByteArray.size_append]; exact t2
          clear hB hXm hW5 hq5 hkl e5
          subst e6
          by_cases h0 : k = 0
          · have HB2 : Hid (B ++ X = A ++ mkB (joinW (ws.take (k + 1)))) := by
              show _ = _
              rw [HJ.out, if_pos h0, List.nil_append, HB.out, HXX.out, h0]
              show A ++ mkB (joinW []) ++ X = _
              rw [app_nil]
            have hz : ¬ 0 < k := by omega
            clear h0
            go_wp2_with fail
            go_roundw
            case rel => exact ⟨k + 1, _, by omega, by go_num, rfl, HB2, trivial⟩
            case measure => simp [intOf]; omega
          · have HB2 : Hid (B ++ ⟨#[32]⟩ ++ X = A ++ mkB (joinW (ws.take (k + 1)))) := by
              show _ = _
              rw [HJ.out, if_neg h0, HB.out, ← HXX.out]
              show A ++ mkB _ ++ mkB [32] ++ mkB Y = _
              rw [← mkB_self A, mkB_append, mkB_append, mkB_append, mkB_append]
              simp
            have hz : 0 < k := by omega
            clear h0
            go_wp2_with fail
            go_roundw
            case rel => exact ⟨k + 1, _, by omega, by go_num, rfl, HB2, trivial⟩
            case measure => simp [intOf]; omega
        · have ek : k = n := by omega
          have hB := HBm.out
          have t1 : ¬ 9223372036854775807 < B.size + 1 := by omega
          have hgg := grown_up hg hg5
          by_cases h0 : n = 0
          · have HB2 : Hid (B = mkB (wantT (Z.take (j + 1)))) := by
              show _ = _
              have e : ws = [] := List.eq_nil_of_length_eq_zero (by rw [Hn.out, h0])
              rw [HWT.out, HB.out, e]
              show A ++ mkB (joinW (List.take k [])) = mkB (wantT (List.take j Z) ++ [])
              rw [List.take_nil, app_nil, HA.out, List.append_nil]
            have hz : ¬ 0 < n := by omega
            clear h0 ek hB
            go_wp2_with fail
            go_roundw
            case rel => exact ⟨j + 1, _, by omega, by go_num, rfl, HB2, hgg⟩
            case measure => simp [intOf]; omega
          · have HB2 : Hid (B ++ ⟨#[10]⟩ = mkB (wantT (Z.take (j + 1)))) := by
              show _ = _
              have e : ws.isEmpty = false := by
                cases ws with
                | nil => exact absurd Hn.out.symm h0
                | cons _ _ => rfl
              rw [HWT.out, HB.out, e, if_neg (by simp), HA.out, ek]
              show mkB _ ++ mkB _ ++ mkB [10] = _
              rw [mkB_append, mkB_append, List.append_assoc]
            have hz : 0 < n := by omega
            clear h0 ek hB
            go_wp2_with fail
            go_roundw
            case rel => exact ⟨j + 1, _, by omega, by go_num, rfl, HB2, hgg⟩
            case measure => simp [intOf]; omega
    · have HA2 : Hid (A = FF) := by
        show _ = _
        rw [HA.out, ← HFF.out, HF.out, show j = N by omega]
      rw [HA2.out]
      have tt : (FF.toList == FF.toList) = true := by simp
      go_wp2_with fail
      go_ret
      exact ⟨rfl, grown_up hg7 hg⟩

theorem walk (s : ByteArray) (W : World) (hs : s.size ≤ 1048576) (hG : G14 W) :
    Calls Tryd.prog 4 #[.string s] W fun e W' => e = .returned (.bool true) ∧ W.grownBy W' none := by
  have hl : s.data.toList.length ≤ 1048576 := by have : s.data.toList.length = s.size := Array.length_toList; omega
  have e : s = mkB s.data.toList := (mkB_self s).symm
  rw [e]
  cases hR : rdT 64 0 (splitC 10 s.data.toList) with
  | ok l => exact walk_ok _ W hl hG l hR
  | error c => exact walk_err _ W hl hG c.1 c.2 hR

end Go.Proofs.YtihfnnabafnmlaaDoor.textOnly
