/- Contracts, over the turned program: the reference's text, Read and Same of tuples answer as the plain words say. Conditions: those that each theorem states. -/
import Derived.Test.YtiledkdoabdnnaaKRef
import Derived.Laws.StructEq
import Derived.Deep.QuietTactic
import Derived.BigQuiet
namespace Go.Proofs.Ytiledkdoabdnnaa
open Go.RowKit
set_option linter.unusedVariables false

theorem drop_cons (s : ByteArray) (i : Nat) (h : i < s.size) : s.data.toList.drop i = s[i] :: s.data.toList.drop (i + 1) := by
  have h2 : i < s.data.toList.length := by simpa using h
  rw [List.drop_eq_getElem_cons h2]
  congr 1
theorem drop_end (s : ByteArray) (i : Nat) (h : ¬ i < s.size) : s.data.toList.drop i = [] := List.drop_eq_nil_of_le (by rw [Array.length_toList]; show s.size ≤ i; omega)

/-- What the reference's text tells. -/
def ToldN (s : List UInt8) (x : Except Int (List UInt8 × List UInt8)) (t : ByteArray) (n er : Int) : Prop :=
  match x with
  | .ok (t', q) => t = mkB t' ∧ er = 0 ∧ ∃ m : Nat, n = m ∧ m ≤ s.length ∧ q = s.drop m
  | .error e => er = e

set_option maxRecDepth 100000 in
set_option maxHeartbeats 400000 in
theorem text_any (s : ByteArray) (w : World) (hs : s.size ≤ 1099511627776) :
    Calls Try.prog 52 #[.string s] w fun e w' => ∃ t n er, e = .returned (.tuple #[.string t, .int .i64 n, .int .i64 er]) ∧ ToldN s.data.toList (pText s.data.toList) t n er ∧ w.grownBy w' none := by
  obtain ⟨i0, hi, hz0, hz1, hz2⟩ := info_parts Try.info5
  have hsz : s.data.toList.length = s.size := by rw [Array.length_toList]; rfl
  have Hsz : Hid (s.data.toList.length = s.size) := hsz
  have Hs : Hid (s.size ≤ 1099511627776) := hs
  have hs2 : s.size ≤ 9223372036854775805 := by omega
  clear hsz hs
  go_enter Try.func52, Try.ntmps52
  go_wp2_with fail
  go_loopw [5, 6] (fun v i wr => ∃ (j : Nat) (acc : List UInt8), j ≤ s.size ∧ i = .int .i64 j ∧ Hid (pre acc (pText (s.data.toList.drop j)) = pText s.data.toList) ∧ Hid (acc.length ≤ j) ∧ Own 5 wr w.heap.size v acc ∧ w.grownBy wr none) (fun _ i _ => s.size - (intOf i).toNat)
  case atStart => exact ⟨0, [], Nat.zero_le _, rfl, pre_nil _, Nat.zero_le _, Own.nil _ _ _, World.grownBy.refl _ _⟩
  case round =>
    obtain ⟨j, acc, hj, rfl, Hp, Hn, ho, hg⟩ := hrel
    have hgs := hg.size
    have hrow : ∀ k, u5.ownBlock = some k → w.heap.size ≤ k := fun k hk => (ho.lt k hk).1
    have Hrow : Hid (∀ k, u5.ownBlock = some k → w.heap.size ≤ k) := hrow
    have Hb1 : Hid (acc.length + 1 ≤ 140737488355328) := by have h1 := Hn.out; have h2 := Hs.out; show _ ≤ _; omega
    clear hrow
    by_cases hlt : j < s.size
    · have hji : (j : Int) < (s.size : Int) := by omega
      have Hd : Hid (s.data.toList.drop j = s[j] :: s.data.toList.drop (j + 1)) := drop_cons s j hlt
      by_cases hc : s[j] = 0
      · have hc' : ((s[j].toNat : Int) == 0) = true := by simp [hc]
        have Hc : Hid (s[j] = 0) := hc
        clear hc
        by_cases h2 : j + 1 < s.size
        · have hj2 : ((j : Int) + 1 == (s.size : Int)) = false := by rw [beq_eq_false_iff_ne]; omega
          have hj3 : (j : Int) + 1 < (s.size : Int) := by omega
          have Hd2 : Hid (s.data.toList.drop (j + 1) = s[j + 1] :: s.data.toList.drop (j + 2)) := drop_cons s (j + 1) h2
          have hcv := run_convert_own wr 69 9 5 Try.underlying69 Try.underlying5 Try.underlying9 ho
          by_cases m1 : s[j + 1] = 1
          · have m1' : ((s[j + 1].toNat : Int) == 1) = true := by simp [m1]
            have Hm : Hid (s[j + 1] = 1) := m1
            have Hr : Hid (pText s.data.toList = .ok (acc, s.data.toList.drop (j + 2))) := by
              show _ = _
              rw [← Hp.out, Hd.out, Hd2.out, Hc.out, Hm.out, pText_end]
              simp [pre]
            clear m1 ho
            go_wp2
            go_ret3
            refine ⟨_, _, _, rfl, ?_, hg⟩
            rw [Hr.out]
            exact ⟨rfl, rfl, j + 2, by go_num, by rw [Hsz.out]; omega, rfl⟩
          · have m1' : ((s[j + 1].toNat : Int) == 1) = false := by
              rw [beq_eq_false_iff_ne]
              intro h
              exact m1 (UInt8.toNat_inj.1 (by simp; omega))
            by_cases m2 : s[j + 1] = 255
            · have m2' : ((s[j + 1].toNat : Int) == 255) = true := by simp [m2]
              have Hr : Hid (pre (acc ++ [0]) (pText (s.data.toList.drop (j + 2))) = pText s.data.toList) := by
                show _ = _
                rw [← Hp.out, Hd.out, Hd2.out, Hc.out, m2, pText_go, pre_pre]
              clear m1 m2 hcv
              go_wp2_with (at_builtin; refine wpList_append_bytes _ rfl (.tmp 41) (.tmp 42) 69 69 rfl w.heap.size 5 i0 Try.underlying69 hi hz0 hz1 hz2 u5 _ rfl (ho.alloc _) _ [0] rfl (src_one wr 69 5 Try.underlying69 _ _ rfl) Hb1.out (by simp; omega) ?_; intro v4 w4 ho4 hg4 hv4)
              have hgt : w.grownBy w4 none := grown_new (grown_up hg (World.grownBy_alloc _ _ _)) hg4 Hrow.out
              go_roundw
              case rel => exact ⟨j + 2, acc ++ [0], by omega, by go_num, Hr, by have := Hn.out; show _ ≤ _; simp; omega, ho4, hgt⟩
              case measure => simp [intOf]; omega
            · have m2' : ((s[j + 1].toNat : Int) == 255) = false := by
                rw [beq_eq_false_iff_ne]
                intro h
                exact m2 (UInt8.toNat_inj.1 (by simp; omega))
              have Hr : Hid (pText s.data.toList = .error 5) := by
                show _ = _
                rw [← Hp.out, Hd.out, Hd2.out, Hc.out, pText_bad _ _ m1 m2]
                rfl
              clear m1 m2 hcv
              go_wp2
              go_ret3
              refine ⟨_, _, _, rfl, ?_, hg⟩
              rw [Hr.out]
              exact rfl
        · have hj2 : ((j : Int) + 1 == (s.size : Int)) = true := by rw [beq_iff_eq]; omega
          have Hr : Hid (pText s.data.toList = .error 2) := by
            show _ = _
            rw [← Hp.out, Hd.out, drop_end s (j + 1) h2, Hc.out]
            rfl
          clear ho
          go_wp2
          go_ret3
          refine ⟨_, _, _, rfl, ?_, hg⟩
          rw [Hr.out]
          exact rfl
      · have hc' : ((s[j].toNat : Int) == 0) = false := by
          rw [beq_eq_false_iff_ne]
          intro h
          exact hc (UInt8.toNat_inj.1 (by simpa using h))
        have Hr : Hid (pre (acc ++ [s[j]]) (pText (s.data.toList.drop (j + 1))) = pText s.data.toList) := by
          show _ = _
          rw [← Hp.out, Hd.out, pText_ne _ _ hc, pre_pre]
        clear hc
        go_wp2_with (at_builtin; refine wpList_append_bytes _ rfl (.tmp 17) (.tmp 21) 69 69 rfl w.heap.size 5 i0 Try.underlying69 hi hz0 hz1 hz2 u5 _ rfl (ho.alloc _) _ [s[j]] rfl (src_one wr 69 5 Try.underlying69 _ _ rfl) Hb1.out (by simp; omega) ?_; intro v4 w4 ho4 hg4 hv4)
        have hgt : w.grownBy w4 none := grown_new (grown_up hg (World.grownBy_alloc _ _ _)) hg4 Hrow.out
        go_roundw
        case rel => exact ⟨j + 1, acc ++ [s[j]], by omega, by go_num, Hr, by have := Hn.out; show _ ≤ _; simp; omega, ho4, hgt⟩
        case measure => simp [intOf]; omega
    · have hji : ¬ (j : Int) < (s.size : Int) := by omega
      have Hr : Hid (pText s.data.toList = .error 2) := by
        show _ = _
        rw [← Hp.out, drop_end s j hlt]
        rfl
      clear ho
      go_wp2
      go_ret3
      refine ⟨_, _, _, rfl, ?_, hg⟩
      rw [Hr.out]
      exact rfl

theorem rest_zero (l : List UInt8) : rest (mkB l) 0 = mkB l := rest_self _
theorem rfnum8_ok (b : Nat) (l : List UInt8) (w : World) (h : Rf w b (mkB l) 0 0) (hl : ¬ l.length < 8) (hs : l.length ≤ maxLen) :
    Calls Try.prog 36 #[.pointer (some ⟨b, 0, none⟩), .int .i64 8] w fun y w' => y = .returned (.int .u64 (val (l.take 8) : Int)) ∧ w'.cell? ⟨b, 2, none⟩ = some (.int .i64 0) ∧ w.grownBy w' (some b) := by
  refine (rfrnum_any b (mkB l) 0 0 8 w h (Nat.zero_le _) (by rw [mkB_size]; exact hs)).mono ?_
  rintro y w' ⟨rfl, p', hp', hr, hR, hg⟩
  have h1 := raw_app (l.take 8) (l.drop 8)
  rw [List.take_append_drop, List.length_take, Nat.min_eq_left (by omega)] at h1
  rw [rest_zero, wid8] at hR ⊢
  rw [h1.1, mkB_list]
  rw [h1.2.2] at hR
  exact ⟨rfl, hR.c2, hg⟩
theorem rfnum8_short (b : Nat) (l : List UInt8) (w : World) (h : Rf w b (mkB l) 0 0) (hl : l.length < 8) :
    Calls Try.prog 36 #[.pointer (some ⟨b, 0, none⟩), .int .i64 8] w fun y w' => y = .returned (.int .u64 0) ∧ w'.cell? ⟨b, 2, none⟩ = some (.int .i64 2) ∧ w.grownBy w' (some b) := by
  have hz := mkB_size l
  refine (rfrnum_any b (mkB l) 0 0 8 w h (Nat.zero_le _) (by rw [mkB_size]; unfold maxLen; omega)).mono ?_
  rintro y w' ⟨rfl, p', hp', hr, hR, hg⟩
  have e1 : rawR (mkB l) 0 (8 : Nat) = ByteArray.empty := by unfold rawR; rw [if_pos (by omega)]
  have e3 : rawE (mkB l) 0 (8 : Nat) = 2 := by unfold rawE; rw [if_neg (by omega), if_pos (by omega)]
  rw [rest_zero, wid8] at hR ⊢
  rw [e1]
  rw [e3] at hR
  exact ⟨rfl, hR.c2, hg⟩
theorem ext_tail (s : ByteArray) (i : Nat) : s.extract i s.size = mkB (s.data.toList.drop i) := by
  apply ByteArray.ext
  apply Array.ext'
  rw [ext_list, mkB_list]
  exact List.take_of_length_le (by rw [List.length_drop, Array.length_toList]; show s.size - i ≤ _; omega)

set_option maxRecDepth 100000 in
set_option maxHeartbeats 400000 in
theorem rread_any (s : ByteArray) (w : World) (hs : s.size ≤ 1099511627776) :
    Calls Try.prog 35 #[.string s] w fun e w' => ∃ v er, e = .returned (.tuple #[v, .int .i64 er]) ∧ ToldL w' w.heap.size (pRead s.data.toList) v er ∧ w.grownBy w' none := by
  obtain ⟨i0, hi, hz0, hz1, hz2⟩ := info_parts Try.info29
  have hsz : s.data.toList.length = s.size := by rw [Array.length_toList]; rfl
  have Hsz : Hid (s.data.toList.length = s.size) := hsz
  have Hs : Hid (s.size ≤ 1099511627776) := hs
  have hs2 : s.size ≤ 9223372036854775000 := by omega
  clear hsz hs
  go_enter Try.func35, Try.ntmps35
  go_wp2_with fail
  go_loopw [4, 5] (fun v i wr => ∃ (j : Nat) (acc : List V), j ≤ s.size ∧ i = .int .i64 j ∧ Hid (preL acc (pRead (s.data.toList.drop j)) = pRead s.data.toList) ∧ Hid (acc.length ≤ j) ∧ OwnV wr w.heap.size v acc ∧ w.grownBy wr none) (fun _ i _ => s.size - (intOf i).toNat)
  case atStart => exact ⟨0, [], Nat.zero_le _, rfl, preL_nil _, Nat.zero_le _, OwnV.nil _ _, World.grownBy.refl _ _⟩
  case round =>
    obtain ⟨j, acc, hj, rfl, Hp, Hn, ho, hg⟩ := hrel
    have hgs := hg.size
    have hrow : ∀ k, u4.ownBlock = some k → w.heap.size ≤ k := fun k hk => (ho.lt k hk).1
    have Hrow : Hid (∀ k, u4.ownBlock = some k → w.heap.size ≤ k) := hrow
    have Hb : Hid ((acc.length + 1) * 32 ≤ 140737488355328 ∧ acc.length + 1 ≤ maxLen) := by
      have h1 := Hn.out; have h2 := Hs.out
      show _ ∧ _
      unfold maxLen
      omega
    clear hrow
    by_cases hlt : j < s.size
    · have hji : (j : Int) < (s.size : Int) := by omega
      have hj1 : (j : Int) + 1 ≤ (s.size : Int) := by omega
      have Hd : Hid (s.data.toList.drop j = s[j] :: s.data.toList.drop (j + 1)) := drop_cons s j hlt
      have Hx : Hid (s.extract (j + 1) s.size = mkB (s.data.toList.drop (j + 1))) := ext_tail s (j + 1)
      have Hdl : Hid ((s.data.toList.drop (j + 1)).length = s.size - (j + 1)) := by show _ = _; rw [List.length_drop, Hsz.out]
      by_cases hc1 : s[j] = 1
      · have hc' : ((s[j].toNat : Int) == 1) = true := by simp [hc1]
        have Hc : Hid (s[j] = 1) := hc1
        clear hc1
        by_cases h8 : (s.data.toList.drop (j + 1)).length < 8
        · have He : Hid (pRead s.data.toList = .error 2) := by
            show _ = _
            rw [← Hp.out, Hd.out, Hc.out, pRead_err _ 2 (by simp) (pVal_short _ h8)]
            rfl
          have hR : Rf (wr.alloc (.cells #[.string (s.extract (j + 1) s.size), .int .i64 0, .int .i64 0] 61)) wr.heap.size (mkB (s.data.toList.drop (j + 1))) 0 0 := by rw [← Hx.out]; exact Rf.new _ _
          have hga := World.grownBy_alloc wr (.cells #[.string (s.extract (j + 1) s.size), .int .i64 0, .int .i64 0] 61) none
          clear ho
          go_wp2_with (go_at_call 36; refine (rfnum8_short _ _ _ hR h8).mono ?_; rintro e w1 ⟨rfl, hc2, hg1⟩)
          go_ret2
          refine ⟨_, _, rfl, ?_, grown_new (grown_up hg hga) hg1 (fun k hk => by cases hk; exact hgs)⟩
          rw [He.out]
          exact ⟨rfl, rfl⟩
        · obtain ⟨m, HM⟩ : ∃ m : Int, Hid (m = wrap64 (IntKind.u64.wrap ((val ((s.data.toList.drop (j + 1)).take 8) : Int) - 9223372036854775808))) := ⟨_, rfl⟩
          have HM2 : Hid (m = (val ((s.data.toList.drop (j + 1)).take 8) : Int) - 9223372036854775808) := by
            have h1 := val_lt8 ((s.data.toList.drop (j + 1)).take 8) (by simp; omega)
            show _ = _
            rw [HM.out, IntKind.wrap_u64]
            unfold wrap64
            omega
          have He : Hid (preL (acc ++ [⟨1, m, ⟨#[]⟩⟩]) (pRead (s.data.toList.drop (j + 9))) = pRead s.data.toList) := by
            show _ = _
            rw [← Hp.out, Hd.out, Hc.out, pRead_ok _ _ _ (pVal_int _ h8), preL_preL, List.drop_drop, HM2.out]
            rfl
          have hR : Rf (wr.alloc (.cells #[.string (s.extract (j + 1) s.size), .int .i64 0, .int .i64 0] 61)) wr.heap.size (mkB (s.data.toList.drop (j + 1))) 0 0 := by rw [← Hx.out]; exact Rf.new _ _
          have hga := World.grownBy_alloc wr (.cells #[.string (s.extract (j + 1) s.size), .int .i64 0, .int .i64 0] 61) none
          have hj9 : j + 9 ≤ s.size := by have := Hdl.out; omega
          have Hsm : Hid ((s.data.toList.drop (j + 1)).length ≤ maxLen) := by have h1 := Hdl.out; have h2 := Hs.out; show _ ≤ _; unfold maxLen; omega
          have hon : u4.ownBlock = none ∨ u4.ownBlock ≠ some wr.heap.size := .inr (fun h => by have := (ho.lt _ h).2; omega)
          generalize hzz : val ((s.data.toList.drop (j + 1)).take 8) = z at *
          have Hz : Hid (val ((s.data.toList.drop (j + 1)).take 8) = z) := hzz
          clear hzz HM2
          go_wp2_with (first
            | (go_at_call 36; refine (rfnum8_ok _ _ _ hR h8 Hsm.out).mono ?_; rintro e w1 ⟨rfl, hc2, hg1⟩; rw [Hz.out]; have ho1 := (ho.kept hga (by cases u4.ownBlock <;> simp)).kept hg1 hon)
            | (at_builtin; rw [← HM.out]; refine wpList_append_row _ rfl (.tmp 33) (.tmp 38) 25 25 rfl w.heap.size 29 i0 _ 3 32 Try.underlying25 hi hz0 rfl hz1 hz2 u4 _ _ rfl (ho1.alloc _) _ 1 (vcs [⟨1, m, ⟨#[]⟩⟩]) rfl (src_val _ 25 29 Try.underlying25 ⟨1, m, ⟨#[]⟩⟩ _ rfl) (by omega) Hb.out.1 Hb.out.2 (by have h1 := hg1.size; simp at h1; simp; omega) ?_; intro v4 w4 ho4 hg4 hv4))
          have hgt : w.grownBy w4 none := grown_new (grown_up (grown_new (grown_up hg hga) hg1 (fun k hk => by cases hk; exact hgs)) (World.grownBy_alloc _ _ _)) hg4 Hrow.out
          have ho5 : OwnV w4 w.heap.size v4 (acc ++ [⟨1, m, ⟨#[]⟩⟩]) := by
            unfold OwnV
            rw [vcs_append, List.length_append]
            exact ho4
          go_roundw
          case rel => exact ⟨j + 9, _, hj9, by go_num, He, by have := Hn.out; show _ ≤ _; simp; omega, ho5, hgt⟩
          case measure => simp [intOf]; omega
      · have hc' : ((s[j].toNat : Int) == 1) = false := by
          rw [beq_eq_false_iff_ne]
          intro h
          exact hc1 (UInt8.toNat_inj.1 (by simp; omega))
        by_cases hc2 : s[j] = 2
        · have hc2' : ((s[j].toNat : Int) == 2) = true := by simp [hc2]
          have Hc : Hid (s[j] = 2) := hc2
          have Hxs : Hid ((s.extract (j + 1) s.size).size ≤ 1099511627776) := by
            have h1 := Hdl.out; have h2 := Hs.out
            show _ ≤ _
            rw [Hx.out, mkB_size]
            omega
          have Hxl : Hid ((s.extract (j + 1) s.size).data.toList = s.data.toList.drop (j + 1)) := by show _ = _; rw [Hx.out, mkB_list]
          clear hc1 hc2
          cases hpt : pText (s.data.toList.drop (j + 1)) with
          | error e0 =>
            have hne0 : (e0 != 0) = true := by rcases pText_err _ _ hpt with rfl | rfl <;> rfl
            have He : Hid (pRead s.data.toList = .error e0) := by
              show _ = _
              rw [← Hp.out, Hd.out, Hc.out, pRead_err _ e0 (by simp) (pVal_texte _ _ hpt)]
              rfl
            have Hpt : Hid (pText (s.data.toList.drop (j + 1)) = .error e0) := hpt
            clear ho hpt
            go_wp2_with (go_at_call 52; refine (text_any _ _ Hxs.out).mono ?_; rintro e w1 ⟨t, n, er, rfl, hT, hg1⟩; rw [Hxl.out, Hpt.out] at hT; obtain rfl : er = e0 := hT)
            go_ret2
            refine ⟨_, _, rfl, ?_, grown_up hg hg1⟩
            rw [He.out]
            exact ⟨rfl, rfl⟩
          | ok tq =>
            obtain ⟨t0, q⟩ := tq
            have Hpt : Hid (pText (s.data.toList.drop (j + 1)) = .ok (t0, q)) := hpt
            have He : Hid (preL (acc ++ [⟨2, 0, mkB t0⟩]) (pRead q) = pRead s.data.toList) := by
              show _ = _
              rw [← Hp.out, Hd.out, Hc.out, pRead_ok _ _ _ (pVal_text _ _ _ hpt), preL_preL]
            clear hpt
            go_wp2_with fail
            refine (text_any _ _ Hxs.out).mono ?_
            rintro e w1 ⟨t, n, er, rfl, hT, hg1⟩
            rw [Hxl.out, Hpt.out] at hT
            obtain ⟨rfl, rfl, m, rfl, hm, hq⟩ := hT
            have ho1 := ho.kept hg1 (by cases u4.ownBlock <;> simp)
            have hmb : 1 ≤ m ∧ j + (1 + m) ≤ s.size := by
              have h1 := Hdl.out
              refine ⟨?_, by omega⟩
              rcases Nat.eq_zero_or_pos m with h0 | h0
              · subst h0
                have hb := congrArg List.length (pText_back _ _ _ Hpt.out)
                rw [hq] at hb
                simp only [encT, List.length_append, List.length_cons, List.length_nil, List.drop_zero] at hb
                omega
              · exact h0
            have Hq : Hid (q = s.data.toList.drop (j + (1 + m))) := by
              show _ = _
              rw [hq, List.drop_drop]
              congr 1
              omega
            clear hq ho
            have hm1 : (1 : Int) + (m : Int) ≤ 9223372036854775807 := by omega
            go_wp2_with (at_builtin; refine wpList_append_row _ rfl (.tmp 56) (.tmp 59) 25 25 rfl w.heap.size 29 i0 _ 3 32 Try.underlying25 hi hz0 rfl hz1 hz2 u4 _ _ rfl (ho1.alloc _) _ 1 (vcs [⟨2, 0, mkB t0⟩]) rfl (src_val _ 25 29 Try.underlying25 ⟨2, 0, mkB t0⟩ _ rfl) (by omega) Hb.out.1 Hb.out.2 (by have h1 := hg1.size; simp; omega) ?_; intro v4 w4 ho4 hg4 hv4)
            have hgt : w.grownBy w4 none := grown_new (grown_up (grown_up hg hg1) (World.grownBy_alloc _ _ _)) hg4 Hrow.out
            have ho5 : OwnV w4 w.heap.size v4 (acc ++ [⟨2, 0, mkB t0⟩]) := by
              unfold OwnV
              rw [vcs_append, List.length_append]
              exact ho4
            go_roundw
            case rel => exact ⟨j + (1 + m), _, hmb.2, by go_num, by rw [← Hq.out]; exact He, by have := Hn.out; show _ ≤ _; simp; omega, ho5, hgt⟩
            case measure => simp [intOf]; omega
        · have hc2' : ((s[j].toNat : Int) == 2) = false := by
            rw [beq_eq_false_iff_ne]
            intro h
            exact hc2 (UInt8.toNat_inj.1 (by simp; omega))
          have He : Hid (pRead s.data.toList = .error 5) := by
            show _ = _
            rw [← Hp.out, Hd.out, pRead_err _ 5 (by simp) (pVal_bad _ _ hc1 hc2)]
            rfl
          clear hc1 hc2 ho
          go_wp2
          go_ret2
          refine ⟨_, _, rfl, ?_, hg⟩
          rw [He.out]
          exact ⟨rfl, rfl⟩
    · have hji : ¬ (j : Int) < (s.size : Int) := by omega
      have He : Hid (pRead s.data.toList = .ok acc) := by
        show _ = _
        rw [← Hp.out, drop_end s j hlt, pRead_nil]
        simp [preL]
      go_wp2
      go_ret2
      refine ⟨_, _, rfl, ?_, hg⟩
      rw [He.out]
      exact ⟨rfl, ho⟩

/-- Are two tuples the same? -/
def sameV (x y : V) : Bool := decide (x.k = y.k ∧ x.n = y.n ∧ x.s = y.s)
theorem sameV_iff (x y : V) : sameV x y = true ↔ x = y := by
  unfold sameV
  rw [decide_eq_true_iff]
  obtain ⟨a, b, c⟩ := x
  obtain ⟨d, e, f⟩ := y
  simp

set_option maxRecDepth 100000 in
set_option maxHeartbeats 400000 in
theorem same_any (v v' : Value) (l m : List V) (w : World) (hT : Tup w v l) (hT' : Tup w v' m) :
    Calls Try.prog 20 #[v, v'] w fun e w' => (∃ b : Bool, e = .returned (.bool b) ∧ (b = true ↔ l = m)) ∧ w.grownBy w' none := by
  obtain ⟨a, c, rfl, hc, hm, hL⟩ := hT
  obtain ⟨a', c', rfl, hc', hm', hL'⟩ := hT'
  have hlm : l.length ≤ maxLen := Nat.le_trans hc hm
  have hlm' : m.length ≤ maxLen := Nat.le_trans hc' hm'
  unfold maxLen at hlm hlm'
  by_cases hlen : l.length = m.length
  · have hne : ((l.length : Int) == (m.length : Int)) = true := by simp [hlen]
    go_enter Try.func20, Try.ntmps20
    go_wp2_with fail
    go_loopw [5] (fun i wr => ∃ j : Nat, j ≤ l.length ∧ i = .int .i64 j ∧ Hid (l.take j = m.take j) ∧ w.grownBy wr none) (fun i _ => l.length - (intOf i).toNat)
    case atStart => exact ⟨0, Nat.zero_le _, rfl, rfl, World.grownBy.refl _ _⟩
    case round =>
      obtain ⟨j, hj, rfl, He, hg⟩ := hrel
      by_cases hlt : j < l.length
      · have hlt' : j < m.length := by omega
        obtain ⟨b, off, rfl, hb, c0, c1, c2⟩ := hL j hlt
        obtain ⟨b', off', rfl, hb', c0', c1', c2'⟩ := hL' j hlt'
        have hs := hg.block b hb (by simp)
        have hs' := hg.block b' hb' (by simp)
        rw [← cell_same hs] at c0 c1 c2
        rw [← cell_same hs'] at c0' c1' c2'
        have hji : (j : Int) < (l.length : Int) := by omega
        have hji' : (j : Int) < (m.length : Int) := by omega
        have Hs1 : Hid (l.take (j + 1) = l.take j ++ [l[j]]) := List.take_succ_eq_append_getElem hlt
        have Hs2 : Hid (m.take (j + 1) = m.take j ++ [m[j]]) := List.take_succ_eq_append_getElem hlt'
        have Hne : Hid (l[j] ≠ m[j] → l ≠ m) := by
          intro h1 h2
          subst h2
          exact h1 rfl
        clear hL hL' hs hs'
        generalize l[j] = x at *
        generalize m[j] = y at *
        obtain ⟨xk, xn, xs⟩ := x
        obtain ⟨yk, yn, ys⟩ := y
        dsimp only at c0 c1 c2 c0' c1' c2'
        go_upto_region 6 with fail
        by_cases hk : xk = yk
        · by_cases hn : xn = yn
          · by_cases hs : xs = ys
            · have He2 : Hid (l.take (j + 1) = m.take (j + 1)) := by show _ = _; rw [Hs1.out, Hs2.out, He.out, hk, hn, hs]
              have hk' : (xk == yk) = true := by simp [hk]
              have hn' : (xn == yn) = true := by simp [hn]
              have hs' : (xs.toList == ys.toList) = true := by simp [hs]
              clear hk hn hs
              go_quiet (fail)
              go_wp2_with fail
              go_roundw
              case rel => exact ⟨j + 1, by omega, by go_num, He2, grown_up hg (grown_drewN _ _ _)⟩
              case measure => simp [intOf]; omega
            · have HN : Hid (l ≠ m) := Hne.out (by intro h; exact hs (congrArg V.s h))
              have hk' : (xk == yk) = true := by simp [hk]
              have hn' : (xn == yn) = true := by simp [hn]
              have hs' : (xs.toList == ys.toList) = false := by
                rw [beq_eq_false_iff_ne]
                intro h
                rw [ByteArray.toList_eq, ByteArray.toList_eq] at h
                exact hs (by rw [← mkB_self xs, ← mkB_self ys, h])
              clear hk hn hs
              go_quiet (fail)
              go_wp2
              go_ret
              exact ⟨⟨_, rfl, by simp; exact HN.out⟩, grown_up hg (grown_drewN _ _ _)⟩
          · have HN : Hid (l ≠ m) := Hne.out (by intro h; exact hn (congrArg V.n h))
            have hk' : (xk == yk) = true := by simp [hk]
            have hn' : (xn == yn) = false := by simp [hn]
            clear hk hn
            go_quiet (fail)
            go_wp2
            go_ret
            exact ⟨⟨_, rfl, by simp; exact HN.out⟩, grown_up hg (grown_drewN _ _ _)⟩
        · have HN : Hid (l ≠ m) := Hne.out (by intro h; exact hk (congrArg V.k h))
          have hk' : (xk == yk) = false := by simp [hk]
          clear hk
          go_quiet (fail)
          go_wp2
          go_ret
          exact ⟨⟨_, rfl, by simp; exact HN.out⟩, grown_up hg (grown_drewN _ _ _)⟩
      · have hji : ¬ (j : Int) < (l.length : Int) := by omega
        have HE : Hid (l = m) := by
          have h := He.out
          rw [List.take_of_length_le (by omega), List.take_of_length_le (by omega)] at h
          exact h
        go_wp2
        go_ret
        first | exact ⟨⟨_, rfl, by simp; exact HE.out⟩, hg⟩ | exact ⟨.inr ⟨rfl, HE.out⟩, hg⟩
  · have hne : ((l.length : Int) == (m.length : Int)) = false := by rw [beq_eq_false_iff_ne]; omega
    go_enter Try.func20, Try.ntmps20
    go_wp2
    go_ret
    exact ⟨⟨_, rfl, by simp; intro h; exact hlen (by rw [h])⟩, World.grownBy.refl _ _⟩

end Go.Proofs.Ytiledkdoabdnnaa
