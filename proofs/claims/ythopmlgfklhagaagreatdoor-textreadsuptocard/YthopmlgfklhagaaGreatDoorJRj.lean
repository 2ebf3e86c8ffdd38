/- Contract, over the turned program: the document's Read of a text, out of its reading of a line's words. Conditions: those that each theorem states. -/
import Derived.Test.YthopmlgfklhagaaGreatDoorJRb
import Derived.Test.YthopmlgfklhagaaGreatDoorJWe
import Derived.Test.YthopmlgfklhagaaGreatDoorJWh
import Derived.Test.YthopmlgfklhagaaGreatDoorJTn
namespace Go.Proofs.YthopmlgfklhagaaGreatDoor
open Go.RowKit
set_option linter.unusedVariables false

/-- What the document's inst tells of words. -/
def RInst : Prop := ∀ (v : Value) (ws : List (List UInt8)) (w : World), Wds w v ws → ws ≠ [] → (∀ x ∈ ws, x.length ≤ 1099511627776) →
  Calls Tryz.prog 15 #[v] w fun e w' => (∃ (x : In) (b : Bool), e = .returned (.tuple #[x.val, .bool b]) ∧ b = (instU ws).isSome ∧ ∀ y, instU ws = some y → x = y) ∧ w.grownBy w' none

set_option maxRecDepth 100000 in
set_option maxHeartbeats 1000000 in
theorem rread14_any (hI : RInst) (S : List UInt8) (w : World) (hs : S.length ≤ 1099511627775) :
    Calls Tryz.prog 6 #[.string (mkB S)] w fun e w' => ∃ v, e = .returned (.tuple #[v, .int .i64 (rtN (rdT 64 0 (splitC 10 S))), .int .i64 (rtE (rdT 64 0 (splitC 10 S)))]) ∧ OwnI w' w.heap.size v (rtL (rdT 64 0 (splitC 10 S))) ∧ w.grownBy w' none := by
  have Hsp : Hid (Calls Tryz.prog 13 #[.string (mkB S), .int .u8 10] w fun e w' => ∃ q off c, e = .returned (.slice (some ⟨q, off, none⟩) (splitC 10 S).length c) ∧ q < w'.heap.size ∧ Wc w' q off (splitC 10 S) ∧ w.grownBy w' none) := by
    have h := rsplit14_any (mkB S) 10 w (by rw [mkB_size]; omega)
    rw [mkB_list] at h
    refine h.mono ?_
    rintro e w' ⟨v, rfl, hO, hk⟩
    have hS : Wds w' v (splitC 10 S) := hO.sl
    obtain ⟨q, off, c, rfl, hq, hW⟩ := hS.open (splitC_ne 10 S)
    exact ⟨q, off, c, rfl, hq, hW, hk.grown⟩
  have HT : Hid (∀ x ∈ splitC 10 S, x.length ≤ 1099511627776) := fun x hx => Nat.le_trans (split_mem_len 10 S x hx) (by omega)
  have hn : (splitC 10 S).length ≤ 1099511627776 := Nat.le_trans (split_len 10 S) (by omega)
  obtain ⟨R, HR⟩ : ∃ R, Hid (rdT 64 0 (splitC 10 S) = R) := ⟨_, rfl⟩
  rw [HR.out]
  clear hs
  generalize splitC 10 S = Z at *
  obtain ⟨N, HN⟩ : ∃ N, Hid (Z.length = N) := ⟨_, rfl⟩
  rw [HN.out] at hn Hsp
  have HI := hide hI
  clear hI
  go_enter Tryz.func6, Tryz.ntmps6
  go_wp2_with (go_at_call 13; refine (Hsp.out).mono ?_; rintro e w4 ⟨q, off, c, rfl, hq, hW, hg4⟩)
  have HW := hide hW
  have Hq := hide hq
  clear hW hq
  go_loopw [6, 7] (fun o i wr => ∃ (j : Nat) (P : List In), j ≤ N ∧ i = .int .i64 (j : Int) ∧ OwnI wr w4.heap.size o P ∧ w4.grownBy wr none ∧ Hid (Rdn (Z.take j) P)) (fun _ i _ => N - (intOf i).toNat)
  case atStart => exact ⟨0, [], Nat.zero_le _, rfl, OwnI.nil _ _, World.grownBy.refl _ _, by rw [List.take_zero]; exact Rdn.nil⟩
  case round =>
    obtain ⟨j, P, hj, rfl, hO, hg, HP⟩ := hrel
    have hgw := grown_up hg4 hg
    by_cases hlt : j < N
    · have hjl : j < Z.length := by rw [HN.out]; exact hlt
      have hcell : wr.cell? ⟨q, off + j, none⟩ = some (.string (mkB (Z.getD j []))) := HW.out.kept Hq.out hg j hjl
      have hmem : Z.getD j [] ∈ Z := by
        rw [List.getD_eq_getElem?_getD, List.getElem?_eq_getElem hjl]
        exact List.getElem_mem hjl
      have HTk : Hid (Z.take (j + 1) = Z.take j ++ [Z.getD j []]) := by
        show _ = _
        rw [List.take_succ_eq_append_getElem hjl, List.getD_eq_getElem?_getD, List.getElem?_eq_getElem hjl]
        rfl
      have HZ : Hid (Z = Z.take j ++ Z.getD j [] :: Z.drop (j + 1)) := by
        show _ = _
        rw [List.getD_eq_getElem?_getD, List.getElem?_eq_getElem hjl]
        show Z = Z.take j ++ Z[j] :: Z.drop (j + 1)
        rw [← List.drop_eq_getElem_cons hjl, List.take_append_drop]
      have Hjn : Hid ((Z.take j).length = j) := by show _ = _; rw [List.length_take]; omega
      have HL := hide (HT.out _ hmem)
      generalize Z.getD j [] = L at *
      have Hwd : Hid (∀ W0, Calls Tryz.prog 14 #[.string (mkB L)] W0 fun e w' => ∃ a c, e = .returned (.slice a (wordsL L).length c) ∧ Wds w' (.slice a (wordsL L).length c) (wordsL L) ∧ W0.grownBy w' none) := by
        intro W0
        have h := rwords_any (mkB L) W0 (by rw [mkB_size]; exact HL.out)
        rw [mkB_list] at h
        refine h.mono ?_
        rintro e w' ⟨v, rfl, hO, hk⟩
        have hS : Wds w' v (wordsL L) := hO.sl
        obtain ⟨a, c, e, _⟩ := hO.open
        rw [List.length_map] at e
        subst e
        exact ⟨a, c, rfl, hS, hk.grown⟩
      have HwL : Hid (∀ u ∈ wordsL L, u.length ≤ 1099511627776) := fun u hu => Nat.le_trans (words_mem_len L u hu) HL.out
      obtain ⟨n, Hn⟩ : ∃ n, Hid ((wordsL L).length = n) := ⟨_, rfl⟩
      rw [Hn.out] at Hwd
      have hw1 : wrap64 ((j : Int) + 1) = (j : Int) + 1 := by unfold wrap64; omega
      obtain ⟨ao, co, hvo⟩ := row_slice hO
      clear hmem hjl
      by_cases he : wordsL L = []
      · have HP2 : Hid (Rdn (Z.take (j + 1)) P) := by show Rdn _ _; rw [HTk.out]; exact HP.out.blank he
        have hn0 : ((n : Int) == 0) = true := by rw [← Hn.out, he]; rfl
        clear he
        subst hvo
        go_wp2_with (go_at_call 14; refine (Hwd.out _).mono ?_; rintro e w5 ⟨a5, c5, rfl, hS5, hg5⟩)
        go_roundw
        case rel => exact ⟨j + 1, P, by omega, by go_num, World.ownsRow.kept hO hg5 (by cases ao <;> simp [Value.ownBlock]), grown_up hg hg5, HP2⟩
        case measure => simp [intOf]; omega
      · have hn0 : ((n : Int) == 0) = false := by
          have := List.length_pos_iff.2 he
          rw [Hn.out] at this
          rw [beq_eq_false_iff_ne]
          omega
        have He := hide he
        cases hu : instU (wordsL L) with
        | none =>
          have hbad := HP.out.bad He.out hu (Z.drop (j + 1))
          rw [← HZ.out, HR.out, Hjn.out] at hbad
          have Hbad := hide hbad
          have Hin : Hid (∀ v W, Wds W v (wordsL L) → Calls Tryz.prog 15 #[v] W fun e w' => (∃ x : In, e = .returned (.tuple #[.agg #[.int .i64 x.op, .int .i64 x.a, .int .i64 x.b, .int .i64 x.c, .int .i64 x.v.k, .int .i64 x.v.n, .string x.v.s], .bool false])) ∧ W.grownBy w' none) := by
            intro v W hW
            refine (HI.out v _ W hW He.out HwL.out).mono ?_
            rintro e w' ⟨⟨x, b, rfl, hb, _⟩, hg⟩
            rw [hu] at hb
            subst hb
            exact ⟨⟨x, rfl⟩, hg⟩
          clear he hu hbad
          subst hvo
          go_wp2_with (first
            | (go_at_call 14; refine (Hwd.out _).mono ?_; rintro e w5 ⟨a5, c5, rfl, hS5, hg5⟩)
            | (go_at_call 15; refine (Hin.out _ _ hS5).mono ?_; rintro e w6 ⟨⟨x, rfl⟩, hg6⟩))
          go_ret3
          rw [Hbad.out]
          exact ⟨_, rfl, OwnI.nil _ _, grown_up (grown_up (grown_up hgw hg5) hg6) (World.grownBy_alloc _ _ _)⟩
        | some y =>
          have Hin : Hid (∀ v W, Wds W v (wordsL L) → Calls Tryz.prog 15 #[v] W fun e w' => e = .returned (.tuple #[.agg #[.int .i64 y.op, .int .i64 y.a, .int .i64 y.b, .int .i64 y.c, .int .i64 y.v.k, .int .i64 y.v.n, .string y.v.s], .bool true]) ∧ W.grownBy w' none) := by
            intro v W hW
            refine (HI.out v _ W hW He.out HwL.out).mono ?_
            rintro e w' ⟨⟨x, b, rfl, hb, hx⟩, hg⟩
            rw [hu] at hb
            subst hb
            obtain rfl := hx y hu
            exact ⟨rfl, hg⟩
          have hpl : P.length ≤ 64 := HP.out.1
          by_cases h64 : P.length < 64
          · have HP2 : Hid (Rdn (Z.take (j + 1)) (P ++ [y])) := by show Rdn _ _; rw [HTk.out]; exact HP.out.more He.out hu h64
            have ht : ¬ (64 : Int) ≤ (P.length : Int) := by omega
            have hbs : w4.heap.size ≤ wr.heap.size := hg.size
            have HO := hide hO
            clear he hu hO hpl
            subst hvo
            go_wp2_with (first
              | (go_at_call 14; refine (Hwd.out _).mono ?_; rintro e w5 ⟨a5, c5, rfl, hS5, hg5⟩)
              | (go_at_call 15; refine (Hin.out _ _ hS5).mono ?_; rintro e w6 ⟨rfl, hg6⟩; have hg7 := grown_up (grown_up hg5 hg6) (World.grownBy_alloc w6 (.cells #[.int .i64 y.op, .int .i64 y.a, .int .i64 y.b, .int .i64 y.c, .int .i64 y.v.k, .int .i64 y.v.n, .string y.v.s] 35) none); have hIb := Ib.new w6 y; obtain ⟨m0, m1, m2, m3, m4, m5, m6⟩ := hIb.cs; obtain ⟨v', w', hr, hO', hg', hv'⟩ := appI ((w6.alloc (.cells #[.int .i64 y.op, .int .i64 y.a, .int .i64 y.b, .int .i64 y.c, .int .i64 y.v.k, .int .i64 y.v.n, .string y.v.s] 35)).alloc (.cells #[.int .i64 y.op, .int .i64 y.a, .int .i64 y.b, .int .i64 y.c, .int .i64 y.v.k, .int .i64 y.v.n, .string y.v.s] 35)) w4.heap.size _ (.slice (some ⟨(w6.alloc (.cells #[.int .i64 y.op, .int .i64 y.a, .int .i64 y.b, .int .i64 y.c, .int .i64 y.v.k, .int .i64 y.v.n, .string y.v.s] 35)).heap.size, 0, none⟩) 1 1) P [y] (OwnI.alloc (World.ownsRow.kept HO.out hg7 (by cases ao <;> simp [Value.ownBlock])) _) (ins_lit (w6.alloc (.cells #[.int .i64 y.op, .int .i64 y.a, .int .i64 y.b, .int .i64 y.c, .int .i64 y.v.k, .int .i64 y.v.n, .string y.v.s] 35)) y) (Nat.le_trans hbs (Nat.le_trans hg7.size (by simp))) (by simp; omega); rw [World.size_alloc] at hr; clear hIb)
              | (at_builtin; refine iwpList_app_at rfl (.tmp 41) (.tmp 43) 23 23 rfl _ _ rfl rfl hr ?_))
            have hgf : w4.grownBy w' none := grown_trans (grown_trans (grown_up hg hg7) (World.grownBy_alloc _ _ _) (.inl rfl)) hg' (by
              cases ao with
              | none => exact .inl rfl
              | some z => exact .inr ⟨_, rfl, (HO.out.lt _ rfl).1⟩)
            go_roundw
            case rel => exact ⟨j + 1, _, by omega, by go_num, hO', hgf, HP2⟩
            case measure => simp [intOf]; omega
          · have hlong := HP.out.long He.out hu h64 (Z.drop (j + 1))
            rw [← HZ.out, HR.out, Hjn.out] at hlong
            have Hlong := hide hlong
            have ht : (64 : Int) ≤ (P.length : Int) := by omega
            clear he hu hlong h64 hpl
            subst hvo
            go_wp2_with (first
              | (go_at_call 14; refine (Hwd.out _).mono ?_; rintro e w5 ⟨a5, c5, rfl, hS5, hg5⟩)
              | (go_at_call 15; refine (Hin.out _ _ hS5).mono ?_; rintro e w6 ⟨rfl, hg6⟩))
            go_ret3
            rw [Hlong.out]
            exact ⟨_, rfl, OwnI.nil _ _, grown_up (grown_up (grown_up hgw hg5) hg6) (World.grownBy_alloc _ _ _)⟩
    · have hall : R = .ok P := by
        rw [← HR.out]
        have h := HP.out
        rw [show j = N by omega, ← HN.out, List.take_length] at h
        exact h.all
      subst hall
      obtain ⟨ao, co, hvo⟩ := row_slice hO
      have HO := hide hO
      clear hO
      subst hvo
      go_wp2
      go_ret3
      exact ⟨_, rfl, Joins.ownsRow_le HO.out hg4.size, hgw⟩

end Go.Proofs.YthopmlgfklhagaaGreatDoor
