/- The walk of CodeJoins, over two programs, a number and the table of operands as they lie in memory. -/
import Derived.Test.YtohcpgoiclapjaaDoorILv
import Derived.Test.YtohcpgoiclapjaaDoorKRef
import Derived.Test.YtohcpgoiclapjaaDoorIApp
namespace Go.Proofs.YtohcpgoiclapjaaDoor.codeJoins
open Go.RowKit
set_option linter.unusedVariables false

set_option maxRecDepth 100000 in
set_option maxHeartbeats 2000000 in
theorem walk (v v' : Value) (l m : List In) (cut : Int) (W : World) (hT : Ins W v l) (hT' : Ins W v' m) (hwf : ∀ x ∈ l, x.wf) (hwf' : ∀ x ∈ m, x.wf) (hG : Glob W) :
    Calls Tryd.prog 7 #[v, v', .int .i64 cut] W fun e W' => e = .returned (.bool true) ∧ W.grownBy W' none := by
  obtain ⟨A, HA⟩ : ∃ A : ByteArray, Hid ((⟨(wiB l).toArray⟩ : ByteArray) = A) := ⟨_, rfl⟩
  obtain ⟨E, HE⟩ : ∃ E, Hid (wiE l = E) := ⟨_, rfl⟩
  obtain ⟨B, HB⟩ : ∃ A : ByteArray, Hid ((⟨(wiB m).toArray⟩ : ByteArray) = A) := ⟨_, rfl⟩
  obtain ⟨F, HF⟩ : ∃ E, Hid (wiE m = E) := ⟨_, rfl⟩
  go_enter Tryd.func7, Tryd.ntmps7
  go_wp2_with fail
  refine (ilives_any _ hG).mono ?_
  rintro e w1 ⟨rfl, hg1⟩
  have hT1 := hT.keptN hg1
  have hT1' := hT'.keptN hg1
  have hG1 := hG.keptN hg1
  go_wp2_with fail
  refine (iwrite_any _ l _ hT1 hwf hG1).mono ?_
  rintro e w2 ⟨rfl, hg2⟩
  rw [HA.out, HE.out]
  have hT2 := hT1.keptN hg2
  have hT2' := hT1'.keptN hg2
  have hG2 := hG1.keptN hg2
  go_wp2_with fail
  refine (iwrite_any _ m _ hT2' hwf' hG2).mono ?_
  rintro e w3 ⟨rfl, hg3⟩
  rw [HB.out, HF.out]
  have hT3 := hT2.keptN hg3
  have hT3' := hT2'.keptN hg3
  have hG3 := hG2.keptN hg3
  have hgg := grown_up (grown_up hg1 hg2) hg3
  clear hT hT1 hT2 hT' hT1' hT2' hG hG1 hG2 hg1 hg2 hg3
  by_cases h0 : E = 0
  · by_cases h0' : F = 0
    · have ok1 : wiOk l = true := (wiE_ok l).1 (HE.out.trans h0)
      have ok2 : wiOk m = true := (wiE_ok m).1 (HF.out.trans h0')
      have HA2 : Hid (A = mkB (encP l)) := by show _ = _; rw [← HA.out]; unfold wiB; rw [ok1]; rfl
      have HB2 : Hid (B = mkB (encP m)) := by show _ = _; rw [← HB.out]; unfold wiB; rw [ok2]; rfl
      unfold wiOk at ok1 ok2
      rw [Bool.and_eq_true] at ok1 ok2
      have hl64 := of_decide_eq_true ok1.1
      have hm64 := of_decide_eq_true ok2.1
      have Hok1 := hide ok1.2
      have Hall : Hid ((l ++ m).all okI = true) := by show _ = _; rw [List.all_append, ok1.2, ok2.2]; rfl
      have Hwf : Hid (∀ x ∈ l ++ m, x.wf) := by
        intro x hx
        rcases List.mem_append.1 hx with h | h
        · exact hwf x h
        · exact hwf' x h
      have HC : Hid (A ++ B = mkB (encP (l ++ m))) := by show _ = _; rw [HA2.out, HB2.out, mkB_append, encP_append]
      have HAs : Hid (A.size ≤ 17280) := by
        have h1 := encP_len l
        show _ ≤ _
        rw [HA2.out, mkB_size]
        omega
      have HBs : Hid (B.size ≤ 17280) := by
        have h1 := encP_len m
        show _ ≤ _
        rw [HB2.out, mkB_size]
        omega
      have t1 : ¬ 9223372036854775807 < A.size + B.size := by have := HAs.out; have := HBs.out; omega
      have HCs : Hid ((A ++ B).size ≤ maxLen) := by
        have h1 := HAs.out
        have h2 := HBs.out
        show _ ≤ _
        rw [ByteArray.size_append]
        unfold maxLen
        omega
      subst h0 h0'
      clear ok1 ok2
      go_wp2_with fail
      refine (iread_any (A ++ B) _ HCs.out hG3).mono ?_
      rintro e w4 ⟨v4, e4, rfl, hP4, hg4⟩
      obtain ⟨hi4, he4⟩ := told_ins hP4
      rw [HC.out, mkB_list] at hi4 he4
      have hT4 := hT3.keptN hg4
      have hT4' := hT3'.keptN hg4
      have hG4 := hG3.keptN hg4
      have hgh := grown_up hgg hg4
      clear hP4 hT3 hT3' hG3 hgg hg4
      obtain ⟨va, vc, rfl, hlc, hvm, _⟩ := hT4
      have hT4 : Ins w4 (.slice va l.length vc) l := ⟨va, vc, rfl, hlc, hvm, by assumption⟩
      obtain ⟨va', vc', rfl, hlc', hvm', _⟩ := hT4'
      have hT4' : Ins w4 (.slice va' m.length vc') m := ⟨va', vc', rfl, hlc', hvm', by assumption⟩
      by_cases hlong : (64 : Int) < (l.length : Int) + (m.length : Int)
      · have e3 : e4 = 3 := by
          rw [he4, pR_long (l ++ m) 64 Hwf.out Hall.out (by rw [List.length_append]; omega)]
          rfl
        subst e3
        clear he4
        go_wp2
        go_ret
        exact ⟨rfl, hgh⟩
      · have hpr := pR_enc (l ++ m) 64 Hwf.out Hall.out (by rw [List.length_append]; omega)
        rw [hpr] at hi4 he4
        obtain rfl : e4 = 0 := he4
        replace hi4 : Ins w4 v4 (l ++ m) := hi4
        clear hpr
        have HAs2 := HAs.out
        go_upto_region 11 with fail
        obtain ⟨K, hK, hKe⟩ := cut_nat cut A.size HAs2
        rw [hKe]
        clear hKe
        have HX : Hid ((A.extract 0 K).data.toList = (encP l).take K) := by
          show _ = _
          rw [HA2.out, mkB_ext, mkB_list, List.drop_zero, Nat.sub_zero]
        have HXs : Hid ((A.extract 0 K).size ≤ maxLen) := by
          show _ ≤ _
          rw [ByteArray.size_extract]
          unfold maxLen
          omega
        have HAl : Hid (A.size = (encP l).length) := by show _ = _; rw [HA2.out, mkB_size]
        have hKi : (K : Int) ≤ (A.size : Int) := by omega
        have hK0 : (0 : Int) ≤ (K : Int) := by omega
        go_wp2_with fail
        refine (iread_any (A.extract 0 K) _ HXs.out hG4).mono ?_
        rintro e w5 ⟨v5, e5, rfl, hP5, hg5⟩
        obtain ⟨hi5, he5⟩ := told_ins hP5
        rw [HX.out] at hi5 he5
        have hT5 := hT4.keptN hg5
        have hT5' := hT4'.keptN hg5
        have hi45 := hi4.keptN hg5
        have hgi := grown_up hgh hg5
        clear hP5 hT4 hT4' hi4 hG4 hgh hg5
        have Hlen := hide (Nat.le_refl (encP l).length)
        rcases pR_cut l K 64 hwf Hok1.out hl64 (by have := HAl.out; unfold maxLen; omega) with ⟨j, hj, hp⟩ | ⟨hp, hlt⟩
        · rw [hp] at hi5 he5
          obtain rfl : e5 = 0 := he5
          replace hi5 : Ins w5 v5 (l.take j) := hi5
          have hjl : (l.take j).length = j := by rw [List.length_take]; omega
          obtain ⟨vb, vd, hv5, _, _, _⟩ := hi5
          rw [hjl] at hv5
          subst hv5
          have hi5 : Ins w5 (.slice vb j vd) (l.take j) := ⟨vb, vd, by rw [hjl], by assumption, by assumption, by assumption⟩
          have hS5 := sameI_self (l.take j)
          have hTk := hT5.take j hj
          have hji : (j : Int) ≤ (l.length : Int) := by omega
          clear hp
          go_upto_region 13 with (go_at_call 13; refine (rsame13_any _ _ _ _ _ hi5 hTk).mono ?_; rintro e w6 ⟨rfl, hg6⟩; rw [hS5])
          have hT6 := hT5.keptN hg6
          have hT6' := hT5'.keptN hg6
          have hi46 := hi45.keptN hg6
          have hgX := grown_up hgi hg6
          clear hi5 hTk hT5 hT5' hi45 hgi hg6
          obtain ⟨v7, w7, hr7, ho7, hg7, hn7⟩ := appI w6 w6.heap.size (.slice none 0 0) (.slice va l.length vc) [] l (OwnI.nil _ _) hT6 (Nat.le_refl _) (by simp; omega)
          have hG7 : W.grownBy w7 none := grown_up hgX (by simpa [Value.ownBlock] using hg7)
          have hg7' : w6.grownBy w7 none := by simpa [Value.ownBlock] using hg7
          have hT7' := hT6'.keptN hg7'
          have hi7 := hi46.keptN hg7'
          rw [List.nil_append] at ho7
          have hs7 : w6.heap.size ≤ w7.heap.size := hg7'.size
          obtain ⟨v8, w8, hr8, ho8, hg8, hn8⟩ := appI w7 w6.heap.size v7 (.slice va' m.length vc') l m ho7 hT7' hs7 (by omega)
          have hg8' : w6.grownBy w8 none := grown_new hg7' hg8 (fun k hk => (ho7.lt k hk).1)
          have hi8 := hi46.keptN hg8'
          have hj8 := ho8.ins
          have hG8 : W.grownBy w8 none := grown_up hgX hg8'
          have hS8 := sameI_self (l ++ m)
          clear hg7 hg8 hn7 hn8 ho7 ho8 hG7
          go_wp2_with (first
            | (at_builtin; refine iwpList_app_g (by rfl) (.const (.slice none 0 0)) (.tmp 89) 22 22 (by rfl) _ _ (by rfl) (by rfl) hr7 ?_)
            | (at_builtin; refine iwpList_app_g (by rfl) (.tmp 90) (.tmp 91) 22 22 (by rfl) _ _ (by rfl) (by rfl) hr8 ?_)
            | (go_at_call 13; refine (rsame13_any _ _ _ _ _ hi8 hj8).mono ?_; rintro e w9 ⟨rfl, hg9⟩; rw [hS8]))
          go_ret
          exact ⟨rfl, grown_up hG8 hg9⟩
        · obtain rfl : e5 = 2 := by rw [he5, hp]; rfl
          have hKlt : (K : Int) < (A.size : Int) := by have := HAl.out; omega
          clear he5 hp
          go_upto_region 13 with fail
          have hT6 := hT5
          have hT6' := hT5'
          have hi46 := hi45
          have hgX := hgi
          clear hi5 hT5 hT5' hi45 hgi
          obtain ⟨v7, w7, hr7, ho7, hg7, hn7⟩ := appI w5 w5.heap.size (.slice none 0 0) (.slice va l.length vc) [] l (OwnI.nil _ _) hT6 (Nat.le_refl _) (by simp; omega)
          have hG7 : W.grownBy w7 none := grown_up hgX (by simpa [Value.ownBlock] using hg7)
          have hg7' : w5.grownBy w7 none := by simpa [Value.ownBlock] using hg7
          have hT7' := hT6'.keptN hg7'
          have hi7 := hi46.keptN hg7'
          rw [List.nil_append] at ho7
          have hs7 : w5.heap.size ≤ w7.heap.size := hg7'.size
          obtain ⟨v8, w8, hr8, ho8, hg8, hn8⟩ := appI w7 w5.heap.size v7 (.slice va' m.length vc') l m ho7 hT7' hs7 (by omega)
          have hg8' : w5.grownBy w8 none := grown_new hg7' hg8 (fun k hk => (ho7.lt k hk).1)
          have hi8 := hi46.keptN hg8'
          have hj8 := ho8.ins
          have hG8 : W.grownBy w8 none := grown_up hgX hg8'
          have hS8 := sameI_self (l ++ m)
          clear hg7 hg8 hn7 hn8 ho7 ho8 hG7
          go_wp2_with (first
            | (at_builtin; refine iwpList_app_g (by rfl) (.const (.slice none 0 0)) (.tmp 89) 22 22 (by rfl) _ _ (by rfl) (by rfl) hr7 ?_)
            | (at_builtin; refine iwpList_app_g (by rfl) (.tmp 90) (.tmp 91) 22 22 (by rfl) _ _ (by rfl) (by rfl) hr8 ?_)
            | (go_at_call 13; refine (rsame13_any _ _ _ _ _ hi8 hj8).mono ?_; rintro e w9 ⟨rfl, hg9⟩; rw [hS8]))
          go_ret
          exact ⟨rfl, grown_up hG8 hg9⟩
    · have h0'' : (F != 0) = true := by simp [h0']
      subst h0
      clear h0'
      go_wp2
      go_ret
      exact ⟨rfl, hgg⟩
  · have h0'' : (E != 0) = true := by simp [h0]
    clear h0
    go_wp2
    go_ret
    exact ⟨rfl, hgg⟩

end Go.Proofs.YtohcpgoiclapjaaDoor.codeJoins
