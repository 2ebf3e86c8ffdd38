/- The walk of CheckHeads, over two programs and the table of operands as they lie in memory. -/
import Derived.Test.YtnldjloiafilmabDoorQL
import Derived.Test.YtnldjloiafilmabDoorISame
namespace Go.Proofs.YtnldjloiafilmabDoor.checkHeads
open Go.RowKit
set_option linter.unusedVariables false

theorem ins_new (w : World) (x : In) (g : Nat) (hg : w.heap.size = g) : Ins (w.alloc (.cells #[.int .i64 x.op, .int .i64 x.a, .int .i64 x.b, .int .i64 x.c, .int .i64 x.v.k, .int .i64 x.v.n, .string x.v.s] 26)) (.slice (some ⟨g, 0, none⟩) 1 1) [x] := by
  subst hg
  have hb := (Ib.new w x)
  obtain ⟨c0, c1, c2, c3, c4, c5, c6⟩ := hb.cs
  refine ins_one (Nat.le_refl _) (by decide) hb.lt (fun j u hu => ?_)
  rw [Nat.zero_add]
  rcases (by have := (List.getElem?_eq_some_iff.1 hu).1; simp [In.cells] at this; omega : j = 0 ∨ j = 1 ∨ j = 2 ∨ j = 3 ∨ j = 4 ∨ j = 5 ∨ j = 6) with rfl | rfl | rfl | rfl | rfl | rfl | rfl <;> (simp [In.cells] at hu; subst hu; assumption)
theorem shift_wf (n : Nat) (x : In) (h : x.wf) (ha : 0 ≤ x.a ∧ x.a ≤ 255) (hn : n ≤ 64) : (shiftI n x).wf := by
  unfold shiftI
  split
  · refine ⟨h.1, h.2.1, ?_, h.2.2.2.1, h.2.2.2.2⟩
    unfold ir
    dsimp only
    omega
  · exact h
theorem same_len (l m : List In) (h : l.length ≠ m.length) : sameI l m = false := by
  cases hs : sameI l m with
  | false => rfl
  | true => exact absurd (congrArg List.length (sameI_iff.1 hs)) h

set_option maxRecDepth 100000 in
set_option maxHeartbeats 2000000 in
theorem walk (va vb : Value) (a b : List In) (W : World) (hA : Ins W va a) (hB : Ins W vb b) (hwa : ∀ x ∈ a, x.wf) (hwb : ∀ x ∈ b, x.wf) (hG : Glob W) :
    Calls Tryd.prog 6 #[va, vb] W fun e W' => e = .returned (.bool true) ∧ W.grownBy W' none := by
  obtain ⟨aa, ca, rfl, z1, z2, z3⟩ := hA
  have hA : Ins W (.slice aa a.length ca) a := ⟨aa, ca, rfl, z1, z2, z3⟩
  have hlma : (a.length : Int) ≤ 9223372036854775807 := by unfold maxLen at z2; omega
  clear z1 z2 z3
  obtain ⟨ab, cb, rfl, z1, z2, z3⟩ := hB
  have hB : Ins W (.slice ab b.length cb) b := ⟨ab, cb, rfl, z1, z2, z3⟩
  have hlmb : (b.length : Int) ≤ 9223372036854775807 := by unfold maxLen at z2; omega
  clear z1 z2 z3
  obtain ⟨E, HE⟩ : ∃ E, Hid ((chkI a).1 = E) := ⟨_, rfl⟩
  obtain ⟨N, HN⟩ : ∃ N, Hid ((chkI a).2 = N) := ⟨_, rfl⟩
  obtain ⟨F, HF⟩ : ∃ E, Hid ((chkI b).1 = E) := ⟨_, rfl⟩
  obtain ⟨M, HM⟩ : ∃ N, Hid ((chkI b).2 = N) := ⟨_, rfl⟩
  go_enter Tryd.func6, Tryd.ntmps6
  go_wp2_with fail
  refine (qlives_any _ hG).mono ?_
  rintro e w1 ⟨rfl, hg1⟩
  have hG1 := hG.keptN hg1
  have hA1 := hA.keptN hg1
  have hB1 := hB.keptN hg1
  go_wp2_with fail
  refine (qcheck_any _ a _ hA1 hwa hG1).mono ?_
  rintro e w2 ⟨rfl, hg2⟩
  rw [HE.out, HN.out]
  have hG2 := hG1.keptN hg2
  have hA2 := hA1.keptN hg2
  have hB2 := hB1.keptN hg2
  go_wp2_with fail
  refine (qcheck_any _ b _ hB2 hwb hG2).mono ?_
  rintro e w3 ⟨rfl, hg3⟩
  rw [HF.out, HM.out]
  have hG3 := hG2.keptN hg3
  have hA3 := hA2.keptN hg3
  have hB3 := hB2.keptN hg3
  have hgg := grown_up (grown_up hg1 hg2) hg3
  clear hA hA1 hA2 hB hB1 hB2 hG1 hG2 hg1 hg2 hg3
  by_cases h0 : E = 0
  · by_cases h1 : F = 0
    · by_cases h64 : (64 : Int) < (a.length : Int) + (b.length : Int)
      · subst h0 h1
        have hs : ¬ 9223372036854775807 < (a.length : Int) + (b.length : Int) := by
          have r1 := ((chk_ok a).1 HE.out).l1
          have r2 := ((chk_ok b).1 HF.out).l1
          omega
        have hs1 : (a.length : Int) ≤ 64 := by have r1 := ((chk_ok a).1 HE.out).l1; omega
        have hs2 : (b.length : Int) ≤ 64 := by have r1 := ((chk_ok b).1 HF.out).l1; omega
        go_wp2
        go_ret
        exact ⟨rfl, hgg⟩
      · have HRa : Hid (RunOk a) := (chk_ok a).1 (HE.out.trans h0)
        have HRb : Hid (RunOk b) := (chk_ok b).1 (HF.out.trans h1)
        subst h0 h1
        have hs1 : a.length ≤ 64 := HRa.out.l1
        have hs2 : b.length ≤ 64 := HRb.out.l1
        have hs3 : a.length + b.length ≤ 64 := by omega
        have hs4 : 1 ≤ b.length := HRb.out.l0
        obtain ⟨v4, w4, hr4, hO4, hg4, hn4⟩ := appI w3 w3.heap.size (.slice none 0 0) (.slice aa a.length ca) [] a (OwnI.nil _ _) hA3 (Nat.le_refl _) (by simp; omega)
        rw [List.nil_append] at hO4
        have HAa := hide hA3
        have HBb := hide hB3
        have HwS : Hid (∀ x ∈ a ++ b.map (shiftI a.length), x.wf) := by
          intro x hx
          rcases List.mem_append.1 hx with h | h
          · exact hwa x h
          · obtain ⟨y, hy, rfl⟩ := List.mem_map.1 h
            have ho := List.all_eq_true.1 HRb.out.ok _ hy
            exact shift_wf _ _ (hwb y hy) (of_decide_eq_true (fit_lt (okI_parts ho).2.1).1) hs1
        have Hc1 := hide (chk_zero _ (runOk_two HRa.out HRb.out hs3))
        have Hc2 := hide (chk_zero _ (runOk_done HRa.out (by omega)))
        have HwD : Hid (∀ x ∈ a ++ [doneI], x.wf) := by
          intro x hx
          rcases List.mem_append.1 hx with h | h
          · exact hwa x h
          · rw [List.mem_singleton.1 h]
            exact ⟨zV_wf, ⟨by decide, by decide⟩, ⟨by decide, by decide⟩, ⟨by decide, by decide⟩, ⟨by decide, by decide⟩⟩
        have Hsm : Hid (sameI (a ++ b.map (shiftI a.length)) a = false) := same_len _ _ (by rw [List.length_append, List.length_map]; omega)
        have Hab : Hid (∀ k, k < b.length → 0 ≤ (b.getD k d0).a ∧ (b.getD k d0).a ≤ 255) := fun k hk => by
          have ho := List.all_eq_true.1 HRb.out.ok _ (getD_mem hk d0)
          exact of_decide_eq_true (fit_lt (okI_parts ho).2.1).1
        clear hA3 hB3
        go_wp2_with (at_builtin; refine iwpList_app_at rfl (.const (.slice none 0 0)) (.tmp 42) 34 34 rfl _ _ rfl rfl hr4 ?_)
        clear hr4
        have hg4' : w3.grownBy w4 none := hg4
        go_loopw [9, 10] (fun v t wr => ∃ k : Nat, k ≤ b.length ∧ t = .int .i64 k ∧ OwnI wr w3.heap.size v (a ++ (b.take k).map (shiftI a.length)) ∧ w3.grownBy wr none) (fun _ t _ => b.length - (intOf t).toNat)
        case atStart => exact ⟨0, Nat.zero_le _, rfl, by simpa using hO4, hg4'⟩
        case round =>
          clear hO4 hg4 hg4' hn4
          obtain ⟨k, hk, rfl, hO, hg⟩ := hrel
          have hsz := hg.size
          by_cases hlt : k < b.length
          · have hki : (k : Int) < (b.length : Int) := by omega
            obtain ⟨_, _, _, bb, off, rfl, hb, hcs⟩ := (HBb.out.keptN hg).at k hlt
            obtain ⟨hx0, hx1⟩ := Hab.out k hlt
            have Htk : Hid (a ++ (b.take (k + 1)).map (shiftI a.length) = (a ++ (b.take k).map (shiftI a.length)) ++ [shiftI a.length (b.getD k d0)]) := by
              show _ = _
              rw [List.take_succ_eq_append_getElem hlt, List.map_append, List.append_assoc, getD_at hlt]
              rfl
            generalize b.getD k d0 = x at *
            obtain ⟨c0, c1, c2, c3, c4, c5, c6⟩ := cells7 hcs
            have Hlen : Hid ((a ++ (b.take k).map (shiftI a.length)).length + 1 ≤ 1000000000) := by
              show _ ≤ _
              simp
              omega
            have Hlt := hide (fun j h => hO.lt j h)
            have key : ∀ y : In, ∃ v' w', (Builtin.append_ #[34, 34] 34 #[u9, .slice (some ⟨wr.heap.size + 1, 0, none⟩) 1 1]).run Tryd.prog ((wr.alloc (.cells #[.int .i64 y.op, .int .i64 y.a, .int .i64 y.b, .int .i64 y.c, .int .i64 y.v.k, .int .i64 y.v.n, .string y.v.s] 26)).alloc (.cells #[.int .i64 y.op, .int .i64 y.a, .int .i64 y.b, .int .i64 y.c, .int .i64 y.v.k, .int .i64 y.v.n, .string y.v.s] 26)) = .ok v' w' ∧
                OwnI w' w3.heap.size v' (a ++ (b.take k).map (shiftI a.length) ++ [y]) ∧ w3.grownBy w' none := fun y => by
              have hO2 := (hO.alloc (.cells #[.int .i64 y.op, .int .i64 y.a, .int .i64 y.b, .int .i64 y.c, .int .i64 y.v.k, .int .i64 y.v.n, .string y.v.s] 26)).alloc (.cells #[.int .i64 y.op, .int .i64 y.a, .int .i64 y.b, .int .i64 y.c, .int .i64 y.v.k, .int .i64 y.v.n, .string y.v.s] 26)
              have hI := ins_new (wr.alloc (.cells #[.int .i64 y.op, .int .i64 y.a, .int .i64 y.b, .int .i64 y.c, .int .i64 y.v.k, .int .i64 y.v.n, .string y.v.s] 26)) y (wr.heap.size + 1) (by simp)
              obtain ⟨v', w', q1, q2, q3, _⟩ := appI _ w3.heap.size u9 _ _ [y] hO2 hI (by simp; omega) Hlen.out
              exact ⟨v', w', q1, q2, grown_new (grown_up (grown_up hg (World.grownBy_alloc _ _ _)) (World.grownBy_alloc _ _ _)) q3 (fun j hj => (Hlt.out j hj).1)⟩
            have HKey := hide key
            clear key hcs
            rcases hasT_cases x.op with h | ⟨h, h'⟩ | ⟨h, h'⟩
            · have Hsh : Hid (shiftI a.length x = ⟨x.op, x.a + (a.length : Int), x.b, x.c, x.v⟩) := by show _ = _; unfold shiftI hasT; rw [beq_yes h]; rfl
              obtain ⟨v5, w5, hr5, hO5, hg5⟩ := HKey.out ⟨x.op, x.a + (a.length : Int), x.b, x.c, x.v⟩
              rw [← Hsh.out, ← Htk.out] at hO5
              dsimp only at hr5
              have t1 := beq_yes h
              clear h
              go_wp2_with (at_builtin; refine iwpList_app_at rfl (.tmp 68) (.tmp 70) 34 34 rfl _ _ rfl rfl hr5 ?_)
              go_roundw
              case rel => exact ⟨k + 1, by omega, by go_num, hO5, hg5⟩
              case measure => simp [intOf]; omega
            · have Hsh : Hid (shiftI a.length x = ⟨x.op, x.a + (a.length : Int), x.b, x.c, x.v⟩) := by show _ = _; unfold shiftI hasT; rw [beq_yes h', Bool.or_true]; rfl
              obtain ⟨v5, w5, hr5, hO5, hg5⟩ := HKey.out ⟨x.op, x.a + (a.length : Int), x.b, x.c, x.v⟩
              rw [← Hsh.out, ← Htk.out] at hO5
              dsimp only at hr5
              have t1 := beq_no h
              have t2 := beq_yes h'
              clear h h'
              go_wp2_with (at_builtin; refine iwpList_app_at rfl (.tmp 68) (.tmp 70) 34 34 rfl _ _ rfl rfl hr5 ?_)
              go_roundw
              case rel => exact ⟨k + 1, by omega, by go_num, hO5, hg5⟩
              case measure => simp [intOf]; omega
            · have Hsh : Hid (shiftI a.length x = x) := by show _ = _; unfold shiftI hasT; rw [beq_no h, beq_no h']; rfl
              obtain ⟨v5, w5, hr5, hO5, hg5⟩ := HKey.out x
              have hO5' := hO5
              rw [show (a ++ (b.take k).map (shiftI a.length) ++ [x]) = (a ++ (b.take k).map (shiftI a.length)) ++ [shiftI a.length x] by rw [Hsh.out], ← Htk.out] at hO5'
              have t1 := beq_no h
              have t2 := beq_no h'
              clear h h' hO5
              go_wp2_with (at_builtin; refine iwpList_app_at rfl (.tmp 68) (.tmp 70) 34 34 rfl _ _ rfl rfl hr5 ?_)
              go_roundw
              case rel => exact ⟨k + 1, by omega, by go_num, hO5', hg5⟩
              case measure => simp [intOf]; omega
          · obtain rfl : k = b.length := by omega
            rw [List.take_length] at hO
            have hgW := grown_up hgg hg
            have hIl := hO.ins
            have HAw := hide (HAa.out.keptN hg)
            obtain ⟨la, lc, hvl, q1, q2, q3⟩ := hIl
            have HIl : Hid (Ins wr u9 (a ++ b.map (shiftI a.length))) := hO.ins
            clear hvl q1 q2 q3 hO
            go_wp2_with fail
            refine (qcheck_any _ _ _ HIl.out HwS.out (hG.keptN hgW)).mono ?_
            rintro e w5 ⟨rfl, hg5⟩
            rw [Hc1.out]
            have HA5 := hide (HAw.out.keptN hg5)
            have HI5 := hide (HIl.out.keptN hg5)
            have hgX := grown_up hgW hg5
            obtain ⟨v6, w6, hr6, hO6, hg6, hn6⟩ := appI w5 w5.heap.size (.slice none 0 0) (.slice aa a.length ca) [] a (OwnI.nil _ _) HA5.out (Nat.le_refl _) (by simp; omega)
            rw [List.nil_append] at hO6
            have hg6' : w5.grownBy w6 none := hg6
            have hsz6 := hg6'.size
            obtain ⟨v7, w7, hr7, hO7, hg7, hn7⟩ := appI (w6.alloc (.cells #[.int .i64 18, .int .i64 0, .int .i64 0, .int .i64 0, .int .i64 0, .int .i64 0, .string ⟨#[]⟩] 26)) w5.heap.size v6 (.slice (some ⟨w6.heap.size, 0, none⟩) 1 1) a [doneI] (hO6.alloc _) (ins_new w6 doneI _ rfl) (by simp; omega) (by simp; omega)
            have Hlt6 := hide (fun j h => hO6.lt j h)
            have hg7' : w5.grownBy w7 none := grown_new (grown_up hg6' (World.grownBy_alloc _ _ _)) hg7 (fun j hj => (Hlt6.out j hj).1)
            have hgY := grown_up hgX hg7'
            have HI7 := hide hO7.ins
            have HI5' := hide (HI5.out.keptN hg7')
            have HA5' := hide (HA5.out.keptN hg7')
            clear hO6 hO7 hg6 hg7 hn6 hn7 hg6' hg7' hsz6
            go_wp2_with (first | (at_builtin; refine iwpList_app_at rfl (.const (.slice none 0 0)) (.tmp 78) 34 34 rfl _ _ rfl rfl hr6 ?_) | (at_builtin; refine iwpList_app_at rfl (.tmp 79) (.tmp 81) 34 34 rfl _ _ rfl rfl hr7 ?_) | fail)
            refine (qcheck_any _ _ _ HI7.out HwD.out (hG.keptN hgY)).mono ?_
            rintro e w8 ⟨rfl, hg8⟩
            rw [Hc2.out]
            have hgZ := grown_up hgY hg8
            go_wp2_with (go_at_call 16; refine (rsame13_any _ _ _ _ _ (HI5'.out.keptN hg8) (HA5'.out.keptN hg8)).mono ?_; rintro e w9 ⟨rfl, hg9⟩; rw [Hsm.out])
            go_ret
            exact ⟨rfl, grown_up hgZ hg9⟩
    · have t0 : (F != 0) = true := by simp [h1]
      subst h0
      clear h1
      go_wp2
      go_ret
      exact ⟨rfl, hgg⟩
  · have t0 : (E != 0) = true := by simp [h0]
    clear h0
    go_wp2
    go_ret
    exact ⟨rfl, hgg⟩

end Go.Proofs.YtnldjloiafilmabDoor.checkHeads
