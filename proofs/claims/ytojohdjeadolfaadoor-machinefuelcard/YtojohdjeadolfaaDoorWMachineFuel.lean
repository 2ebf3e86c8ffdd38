/- The walk of MachineFuel, over a number, instructions and a value as they lie in memory. Conditions: those that each theorem states. -/
import Derived.Test.YtojohdjeadolfaaDoorHLv
import Derived.Test.YtojohdjeadolfaaDoorQH
import Derived.Test.YtojohdjeadolfaaDoorKRef
namespace Go.Proofs.YtojohdjeadolfaaDoor
open Go.RowKit
set_option linter.unusedVariables false

set_option maxRecDepth 100000 in
set_option maxHeartbeats 400000 in
theorem ris_any (x : V) (w : World) : Calls Tryd.prog 18 #[x.val] w fun e w' => e = .returned (.bool (okC x)) ∧ w.grownBy w' none := by
  have hga := World.grownBy_alloc w (.cells #[.int .i64 x.k, .int .i64 x.n, .string x.s] 25) none
  have hr := right_any x (w.alloc (.cells #[.int .i64 x.k, .int .i64 x.n, .string x.s] 25))
  have hX := (Vb.new w x).c2
  have Hc : Hid (okC x = (okV x && decide (x.s.size ≤ 10))) := rfl
  obtain ⟨R, HR⟩ : ∃ R, Hid (okC x = R) := ⟨_, rfl⟩
  rw [HR.out] at Hc ⊢
  unfold V.val at hr ⊢
  cases hv : okV x with
  | false =>
    rw [hv] at hr
    have e := Hc.out
    rw [hv, Bool.false_and] at e
    subst e
    clear hv
    go_enter Tryd.func18, Tryd.ntmps18
    go_wp2_with (go_at_call 33; refine hr.mono ?_; rintro e w2 ⟨rfl, hg2⟩; have d2 := cell_g hX hg2)
    go_ret
    exact ⟨rfl, grown_up hga hg2⟩
  | true =>
    rw [hv] at hr
    have e := Hc.out
    rw [hv, Bool.true_and] at e
    clear hv
    by_cases hs : x.s.size ≤ 10
    · have hs' : (x.s.size : Int) ≤ 10 := by omega
      rw [decide_eq_true hs] at e
      subst e
      clear hs
      go_enter Tryd.func18, Tryd.ntmps18
      go_wp2_with (go_at_call 33; refine hr.mono ?_; rintro e w2 ⟨rfl, hg2⟩; have d2 := cell_g hX hg2)
      go_ret
      exact ⟨rfl, grown_up hga hg2⟩
    · have hs' : ¬ (x.s.size : Int) ≤ 10 := by omega
      rw [decide_eq_false hs] at e
      subst e
      clear hs
      go_enter Tryd.func18, Tryd.ntmps18
      go_wp2_with (go_at_call 33; refine hr.mono ?_; rintro e w2 ⟨rfl, hg2⟩; have d2 := cell_g hX hg2)
      go_ret
      exact ⟨by show Ending.returned (.bool (decide ((x.s.size : Int) ≤ 10))) = _; rw [decide_eq_false (by omega)], grown_up hga hg2⟩
/-- What a run answers that may be done, of its end alone. -/
def FuP (en : Int) (e : Ending) : Prop := ∃ a1 m1 c1 a2 m2 c2 a3 m3 c3 z1 z2 z3 z4 z5 a4 m4 c4, e = .returned (.tuple #[.agg #[.slice a1 m1 c1, .slice a2 m2 c2, .slice a3 m3 c3, .int .i64 z1, .int .i64 en, .int .i64 z2, .int .i64 z3, .string z4, .int .i64 z5, .slice a4 m4 c4], .int .i64 0])
theorem fu_run (v rv : Value) (l : List In) (rg : List V) (en : Int) (w : World) (hI : Ins w v l) (hwf : ∀ x ∈ l, x.wf) (hG : Glob w) (hr : Rw V.cells 3 w rv rg) (hrw : ∀ x ∈ rg, x.wf) (hR : rightF l 0 rg = true) (hen : (runM (fun _ => none) l 200 (begM 0 rg)).en = en) :
    Calls Tryd.prog 14 #[v, .agg #[.int .i64 0, rv], .nilIface] w fun e w' => FuP en e ∧ w.grownBy w' none := by
  refine (m_run v rv .nilIface l 0 rg (fun _ => none) w hI hwf hG hr hrw twf_none (.inl rfl) (fun W0 d _ => ask_nil _ W0)).mono ?_
  rintro e w' ⟨⟨x, rfl, hE⟩, hg⟩
  have hX : runX l 0 rg = 0 := by unfold runX; rw [if_pos hR]
  have hEe : runE (fun _ => none) l 0 rg = runM (fun _ => none) l 200 (begM 0 rg) := by unfold runE; rw [if_pos hR]
  rw [hX]
  obtain ⟨pv, ov, kv, rv, rfl, a, b, c, d⟩ := hE
  obtain ⟨a1, m1, c1, rfl⟩ := rw_sl a
  obtain ⟨a2, m2, c2, rfl⟩ := rw_sl b
  obtain ⟨a3, m3, c3, rfl⟩ := rw_sl c
  obtain ⟨a4, m4, c4, rfl⟩ := rw_sl d
  rw [hEe, hen]
  exact ⟨⟨_, _, _, _, _, _, _, _, _, _, _, _, _, _, _, _, _, rfl⟩, hg⟩
theorem round_wf (n : Int) (hn : ir n) : ∀ x ∈ roundP n, x.wf := by
  have k : ∀ n : Int, 0 ≤ n → n ≤ 100 → ir n := fun n h0 h1 => by unfold ir; omega
  intro x hx
  simp only [roundP, List.mem_cons, List.not_mem_nil, or_false] at hx
  have h : ∀ op a b c, ir op → ir a → ir b → ir c → ∀ v, v.wf → In.wf ⟨op, a, b, c, v⟩ := fun _ _ _ _ h1 h2 h3 h4 _ hv => ⟨hv, h1, h2, h3, h4⟩
  rcases hx with rfl | rfl
  · exact h 1 1 0 0 (k 1 (by decide) (by decide)) (k 1 (by decide) (by decide)) (k 0 (by decide) (by decide)) (k 0 (by decide) (by decide)) _ (rv_nV n hn.1 hn.2).1
  · exact h 9 0 0 0 (k 9 (by decide) (by decide)) (k 0 (by decide) (by decide)) (k 0 (by decide) (by decide)) (k 0 (by decide) (by decide)) _ zV_wf
theorem round_right (n : Int) : rightF (roundP n) 0 (rgF (nV 1)) = true := rightF_of (round_ok n) (Int.le_refl 0) (show (0 : Int) < 2 by decide) rfl (rgF_ok (rv_nV 1 (by decide) (by decide)))
theorem round_end (n : Int) : (runM (fun _ => none) (roundP n) 200 (begM 0 (rgF (nV 1)))).en = 3 := by
  rw [round_run _ n 200 _ (.inl rfl)]
  rfl
set_option maxRecDepth 100000 in
set_option maxHeartbeats 4000000 in
theorem walk (n : Int) (v : Value) (l : List In) (x : V) (W : World) (hn : ir n) (hI : Ins W v l) (hwf : ∀ x ∈ l, x.wf) (hx : x.wf) (hG : Glob W) :
    Calls Tryd.prog 6 #[.int .i64 n, v, x.val] W fun e w' => e = .returned (.bool true) ∧ W.grownBy w' none := by
  obtain ⟨a0, c0, rfl, h1, h2, h3⟩ := hI
  have hI : Ins W (.slice a0 l.length c0) l := ⟨a0, c0, rfl, h1, h2, h3⟩
  have hlm : (l.length : Int) ≤ 9223372036854775807 := by unfold maxLen at h2; omega
  have HI := hide hI
  have H3 := hide h3
  clear h1 h2 h3 hI
  have hga := World.grownBy_alloc W (.cells #[.int .i64 x.k, .int .i64 x.n, .string x.s] 25) none
  have hX := Vb.new W x
  have hl := mlives_any (W.alloc (.cells #[.int .i64 x.k, .int .i64 x.n, .string x.s] 25)) (hG.keptN hga)
  unfold V.val
  go_enter Tryd.func6, Tryd.ntmps6
  go_upto_region 4 with (first
    | (go_at_call 7; refine hl.mono ?_; rintro e w1 ⟨rfl, hg1⟩)
    | (go_at_call 16; refine ((l_num _).out _).mono ?_; rintro e w2 ⟨rfl, hg2⟩))
  have hA := World.grownBy_alloc w2 (.cells #[.int .i64 1, .int .i64 1, .int .i64 0, .int .i64 0, .int .i64 1, .int .i64 n, .string ⟨#[]⟩, .int .i64 9, .int .i64 0, .int .i64 0, .int .i64 0, .int .i64 0, .int .i64 0, .string ⟨#[]⟩] 40) none
  have hR : Ins (w2.alloc (.cells #[.int .i64 1, .int .i64 1, .int .i64 0, .int .i64 0, .int .i64 1, .int .i64 n, .string ⟨#[]⟩, .int .i64 9, .int .i64 0, .int .i64 0, .int .i64 0, .int .i64 0, .int .i64 0, .string ⟨#[]⟩] 40)) (.slice (some ⟨w2.heap.size, 0, none⟩) 2 2) (roundP n) := ins_lit (roundP n) (by simp [roundP]) (heap_alloc_new w2 (.cells #[.int .i64 1, .int .i64 1, .int .i64 0, .int .i64 0, .int .i64 1, .int .i64 n, .string ⟨#[]⟩, .int .i64 9, .int .i64 0, .int .i64 0, .int .i64 0, .int .i64 0, .int .i64 0, .string ⟨#[]⟩] 40))
  have hgX := grown_up (grown_up hg1 hg2) hA
  have hX3 := hX.kept hgX (by simp)
  have hg3 := grown_up hga hgX
  clear hA hg1 hg2 hX hga hl hgX
  generalize w2.alloc (.cells #[.int .i64 1, .int .i64 1, .int .i64 0, .int .i64 0, .int .i64 1, .int .i64 n, .string ⟨#[]⟩, .int .i64 9, .int .i64 0, .int .i64 0, .int .i64 0, .int .i64 0, .int .i64 0, .string ⟨#[]⟩] 40) = W3 at *
  generalize w2.heap.size = p at *
  go_upto_region 5 with (first
    | (go_at_call 16; refine ((l_num _).out _).mono ?_; rintro e w4 ⟨rfl, hg4⟩)
    | (go_at_call 12; refine (m_first (nV 1) _).mono ?_; rintro e w5 ⟨⟨f, rfl, hF⟩, hg5⟩)
    | (go_at_call 14; refine (fu_run _ _ _ _ 3 _ (hR.keptN (grown_up hg4 hg5)) (round_wf n hn) (hG.keptN (grown_up hg3 (grown_up hg4 hg5))) hF (fun x hx => (rgF_ok (rv_nV 1 (by decide) (by decide)) x hx).1) (round_right n) (round_end n)).mono ?_; rintro e w6 ⟨⟨a1, m1, c1, a2, m2, c2, a3, m3, c3, z1, z2, z3, z4, z5, a4, m4, c4, rfl⟩, hg6⟩))
  have hA7 := World.grownBy_alloc w6 (.cells #[.slice a1 m1 c1, .slice a2 m2 c2, .slice a3 m3 c3, .int .i64 z1, .int .i64 3, .int .i64 z2, .int .i64 z3, .string z4, .int .i64 z5, .slice a4 m4 c4] 43) none
  have hE7 := heap_alloc_new w6 (.cells #[.slice a1 m1 c1, .slice a2 m2 c2, .slice a3 m3 c3, .int .i64 z1, .int .i64 3, .int .i64 z2, .int .i64 z3, .string z4, .int .i64 z5, .slice a4 m4 c4] 43)
  have hg37 := grown_up (grown_up (grown_up hg4 hg5) hg6) hA7
  have hX7 := hX3.kept hg37 (by simp)
  have hg7 := grown_up hg3 hg37
  clear hg4 hg5 hg6 hA7 hg37 hX3 hg3 hF hR
  generalize w6.alloc (.cells #[.slice a1 m1 c1, .slice a2 m2 c2, .slice a3 m3 c3, .int .i64 z1, .int .i64 3, .int .i64 z2, .int .i64 z3, .string z4, .int .i64 z5, .slice a4 m4 c4] 43) = W7 at *
  obtain ⟨ea, hea⟩ : ∃ ea, w6.heap.size = ea := ⟨_, rfl⟩
  rw [hea] at hE7 ⊢
  have e4 : W7.cell? ⟨ea, 4, none⟩ = some (.int .i64 3) := by rw [cell_of_row _ _ _ _ _ _ hE7]; rfl
  obtain ⟨k1, H1⟩ : ∃ k1, Hid ((chkI l).1 = k1) := ⟨_, rfl⟩
  obtain ⟨k2, H2⟩ : ∃ k2, Hid ((chkI l).2 = k2) := ⟨_, rfl⟩
  have hchk := qrcheck_any _ l W7 (HI.out.keptN hg7) hwf
  rw [H1.out, H2.out] at hchk
  go_upto_region 8 with (go_at_call 17; refine hchk.mono ?_; rintro e w8 ⟨rfl, hg8⟩)
  have hX8 := hX7.kept hg8 (by simp)
  have hgw := grown_up hg7 hg8
  clear hX7 hchk e4 hE7
  go_wp2_with fail
  go_loopw [12] (fun t wr => ∃ j : Nat, j ≤ l.length ∧ t = .int .i64 (j : Int) ∧ w8.grownBy wr none ∧ Hid (∀ i, i < j → calmOp (l.getD i dI).op = true)) (fun t _ => l.length - (intOf t).toNat)
  case atStart => exact ⟨0, Nat.zero_le _, rfl, World.grownBy.refl _ _, fun i hi => by omega⟩
  case round =>
    obtain ⟨j, hj, rfl, hg, Hj⟩ := hrel
    have hgr := grown_up hgw hg
    by_cases hlt : j < l.length
    · have hji : (j : Int) < (l.length : Int) := by omega
      obtain ⟨b, off, rfl, hb, hcb⟩ := H3.out j hlt
      have i0 : wr.cell? ⟨b, off + j * 7, none⟩ = some (.int .i64 (l[j]).op) := cell_g (hcb 0 _ rfl) hgr
      have HJ : Hid (calmOp (l[j]).op = true → ∀ i, i < j + 1 → calmOp (l.getD i dI).op = true) := fun h i hi => by
        rcases Nat.lt_or_ge i j with h' | h'
        · exact Hj.out i h'
        · obtain rfl : i = j := by omega
          rw [getD_lt l i dI hlt]
          exact h
      clear hcb
      generalize (l[j]).op = op at *
      cases hc : calmOp op with
      | true =>
        have HK := hide (HJ.out hc)
        rcases calm_cases hc with rfl | rfl | rfl | rfl | rfl | rfl | rfl | rfl
        all_goals
          clear hc HJ
          go_wp2_with fail
          go_roundw
          case rel => exact ⟨j + 1, by omega, by go_num, hg, HK.out⟩
          case measure => simp [intOf]; omega
      | false =>
        unfold calmOp at hc
        simp only [Bool.or_eq_false_iff, beq_eq_false_iff_ne] at hc
        obtain ⟨⟨⟨⟨⟨⟨⟨n1, n2⟩, n3⟩, n4⟩, n5⟩, n6⟩, n7⟩, n8⟩ := hc
        have t1 : (op != 1) = true := bne_iff_ne.2 n1
        have t2 : (op != 2) = true := bne_iff_ne.2 n2
        have t3 : (op != 7) = true := bne_iff_ne.2 n3
        have t4 : (op != 8) = true := bne_iff_ne.2 n4
        have t5 : (op != 11) = true := bne_iff_ne.2 n5
        have t6 : (op != 17) = true := bne_iff_ne.2 n6
        have t7 : (op != 18) = true := bne_iff_ne.2 n7
        have t8 : (op != 19) = true := bne_iff_ne.2 n8
        clear n1 n2 n3 n4 n5 n6 n7 n8 HJ
        go_wp2_with fail
        go_ret
        exact ⟨rfl, hgr⟩
    · obtain rfl : j = l.length := by omega
      have hXr := hX8.kept hg (by simp)
      have v0 := hXr.c0
      have v1 := hXr.c1
      have v2 := hXr.c2
      by_cases hk : k1 = 0
      · have hk' : (k1 != 0) = false := by simp [hk]
        have hrun : Hid (RunOk l) := (chk_ok l).1 (H1.out.trans hk)
        clear hk
        have his := ris_any x wr
        unfold V.val at his
        cases ho : okC x with
        | false =>
          rw [ho] at his
          clear ho
          go_wp2_with (go_at_call 18; refine his.mono ?_; rintro e w9 ⟨rfl, hg9⟩)
          go_ret
          exact ⟨rfl, grown_up hgr hg9⟩
        | true =>
          rw [ho] at his
          have HRv : Hid (Rv x) := ⟨hx, ho⟩
          clear ho
          have hcalm : Hid (∀ y ∈ l, calmOp y.op = true) := fun y hy => by
            obtain ⟨i, hi, rfl⟩ := List.mem_iff_getElem.1 hy
            have := Hj.out i hi
            rw [getD_lt l i dI hi] at this
            exact this
          have hRF : Hid (rightF l 0 (rgF x) = true) := rightF_of hrun.out (Int.le_refl 0) (by have := hrun.out.l0; omega) rfl (rgF_ok HRv.out)
          obtain ⟨en, HEN⟩ : ∃ en, Hid ((runM (fun _ => none) l 200 (begM 0 (rgF x))).en = en) := ⟨_, rfl⟩
          have hen : (en != 3) = true := by
            rw [← HEN.out]
            have h := calm_run l hrun.out hwf hcalm.out 200 (begM 0 (rgF x)) (beg_ok hRF.out (fun y hy => (rgF_ok HRv.out y hy).1)).2 rfl (by have := hrun.out.l1; show (l.length : Int) - 0 ≤ 200; omega)
            exact bne_iff_ne.2 h
          have HFU : Hid (∀ (W9 : World) (rv : Value), W.grownBy W9 none → Rw V.cells 3 W9 rv (rgF x) → Calls Tryd.prog 14 #[.slice a0 l.length c0, .agg #[.int .i64 0, rv], .nilIface] W9 fun e w' => FuP en e ∧ W9.grownBy w' none) := fun W9 rv hgg hr => fu_run _ rv l (rgF x) en W9 (HI.out.keptN hgg) hwf (hG.keptN hgg) hr (fun y hy => (rgF_ok HRv.out y hy).1) hRF.out HEN.out
          have HFi := hide (fun W9 => m_first x W9)
          unfold V.val at HFi
          go_upto_region 16 with (first
            | (go_at_call 18; refine his.mono ?_; rintro e w9 ⟨rfl, hg9⟩; have u0 := cell_g v0 hg9; have u1 := cell_g v1 hg9; have u2 := cell_g v2 hg9)
            | (go_at_call 12; refine (HFi.out _).mono ?_; rintro e w10 ⟨⟨f, rfl, hF⟩, hg10⟩)
            | (go_at_call 14; refine (HFU.out _ _ (grown_up hgr (grown_up hg9 hg10)) hF).mono ?_; rintro e w11 ⟨⟨a1, m1, c1, a2, m2, c2, a3, m3, c3, z1, z2, z3, z4, z5, a4, m4, c4, rfl⟩, hg11⟩))
          have hA12 := World.grownBy_alloc w11 (.cells #[.slice a1 m1 c1, .slice a2 m2 c2, .slice a3 m3 c3, .int .i64 z1, .int .i64 en, .int .i64 z2, .int .i64 z3, .string z4, .int .i64 z5, .slice a4 m4 c4] 43) none
          have hE12 := heap_alloc_new w11 (.cells #[.slice a1 m1 c1, .slice a2 m2 c2, .slice a3 m3 c3, .int .i64 z1, .int .i64 en, .int .i64 z2, .int .i64 z3, .string z4, .int .i64 z5, .slice a4 m4 c4] 43)
          have hg12 := grown_up hgr (grown_up (grown_up (grown_up hg9 hg10) hg11) hA12)
          have e4 : (w11.alloc (.cells #[.slice a1 m1 c1, .slice a2 m2 c2, .slice a3 m3 c3, .int .i64 z1, .int .i64 en, .int .i64 z2, .int .i64 z3, .string z4, .int .i64 z5, .slice a4 m4 c4] 43)).cell? ⟨w11.heap.size, 4, none⟩ = some (.int .i64 en) := by rw [cell_of_row _ _ _ _ _ _ hE12]; rfl
          generalize w11.alloc (.cells #[.slice a1 m1 c1, .slice a2 m2 c2, .slice a3 m3 c3, .int .i64 z1, .int .i64 en, .int .i64 z2, .int .i64 z3, .string z4, .int .i64 z5, .slice a4 m4 c4] 43) = W12 at *
          go_wp2
          go_ret
          exact ⟨rfl, hg12⟩
      · have hk' : (k1 != 0) = true := by simp [hk]
        clear hk
        go_wp2
        go_ret
        exact ⟨rfl, hgr⟩

end Go.Proofs.YtojohdjeadolfaaDoor
