/- Contract, over the turned program: the document's Reached tells which instructions can be come to. Conditions: those that each theorem states. -/
import Derived.Test.YtnldjloiafilmabDoorQI
import Derived.Test.YtnldjloiafilmabDoorQH
namespace Go.Proofs.YtnldjloiafilmabDoor
open Go.RowKit
set_option linter.unusedVariables false

theorem fold_up (L : List Nat) : ∀ (out : Nat → Bool) (k : Nat), L.foldl upB out k = (out k || L.contains k) := by
  induction L with
  | nil => intro out k; simp
  | cons a L ih =>
    intro out k
    rw [List.foldl_cons, ih]
    unfold upB
    rw [List.contains_cons, Bool.or_assoc]
theorem stepF_yes (sc : Nat → List Nat) (out : Nat → Bool) (i : Nat) (h : out i = true) : stepF sc out i = (sc i).foldl upB out := by
  funext k
  unfold stepF
  rw [if_pos h, fold_up]
theorem stepF_no (sc : Nat → List Nat) (out : Nat → Bool) (i : Nat) (h : out i = false) : stepF sc out i = out := by
  unfold stepF
  rw [if_neg (by rw [h]; decide)]
theorem drop_range (n i : Nat) (h : i < n) : (List.range n).drop i = i :: (List.range n).drop (i + 1) := by
  rw [List.drop_eq_getElem_cons (by simpa using h)]
  simp

set_option maxRecDepth 100000 in
set_option maxHeartbeats 2000000 in
theorem qrreached_any (v : Value) (l : List In) (w : World) (hT : Ins w v l) (hwf : ∀ x ∈ l, x.wf) :
    Calls Tryd.prog 14 #[v] w fun e w' => ∃ v', e = .returned v' ∧ Sl Value.bool w'.heap.size w' v' (reI l) ∧ w.grownBy w' none := by
  obtain ⟨a, c, rfl, h1, h2, h3⟩ := hT
  have hT : Ins w (.slice a l.length c) l := ⟨a, c, rfl, h1, h2, h3⟩
  have HT := hide hT
  have HK := hide (qrcheck_any _ l w hT hwf)
  clear h1 h2 h3 hT
  obtain ⟨E, HE⟩ : ∃ E, Hid ((chkI l).1 = E) := ⟨_, rfl⟩
  obtain ⟨N, HN⟩ : ∃ N, Hid ((chkI l).2 = N) := ⟨_, rfl⟩
  rw [HE.out, HN.out] at HK
  by_cases h0 : E = 0
  · have HR : Hid (RunOk l) := (chk_ok l).1 (HE.out.trans h0)
    have HL : Hid (reI l = rchI l) := by show _ = _; unfold reI; rw [HE.out, if_pos h0]
    rw [HL.out]
    subst h0
    have hn0 : 0 < l.length := HR.out.l0
    have hn1 : l.length ≤ 64 := HR.out.l1
    have hn0i : (0 : Int) < (l.length : Int) := by omega
    go_enter Tryd.func14, Tryd.ntmps14
    go_wp2_with fail
    refine HK.out.mono ?_
    rintro e w1 ⟨rfl, hg1⟩
    obtain ⟨w2, hmk, hO2, hg2⟩ := make_bools w1 l.length (by omega)
    obtain ⟨cb, cf⟩ := hO2.cellQ 0 (by rw [bl_len]; exact hn0)
    rw [bl_at] at cb
    have hst := hO2.stored 0 true
    rw [bl_set] at hst
    have e0 : upB (fun _ => false) 0 = init0 := by funext j; unfold upB init0; simp
    rw [e0] at hst
    have hsz1 := hg1.size
    have hsz2 := hg2.size
    have hO3 := hst.1.monoQ hsz1
    have hg3 : w.grownBy (w2.setCell ⟨w1.heap.size, 0, none⟩ (.bool true)) none := grown_new (grown_up hg1 hg2) hst.2 (fun j hj => by cases hj; exact hsz1)
    go_wp2_with (refine wpList_make_at rfl (.tmp 18) (.tmp 18) 35 rfl _ _ rfl rfl hmk ?_)
    generalize w2.setCell ⟨w1.heap.size, 0, none⟩ (.bool true) = W0 at *
    generalize hgb : w1.heap.size = g5 at *
    obtain ⟨F, HF⟩ : ∃ F, Hid (iterF (scI l) l.length l.length init0 = F) := ⟨_, rfl⟩
    have HFin : Hid (rchI l = bl l.length F) := by show _ = _; unfold rchI bl; rw [HF.out]
    have Hsc := hide (sc_lt HR.out)
    clear hmk hO2 hg1 hg2 hsz1 hsz2 hst e0 cb cf hgb HK
    go_loopw [6] (fun t wr => ∃ (r : Nat) (out : Nat → Bool), r ≤ l.length ∧ t = .int .i64 r ∧ Hid (iterF (scI l) l.length (l.length - r) out = F) ∧ Ow Value.bool 4 wr w.heap.size (.slice (some ⟨g5, 0, none⟩) l.length l.length) (bl l.length out) ∧ w.grownBy wr none) (fun t _ => l.length - (intOf t).toNat)
    case atStart => exact ⟨0, init0, Nat.zero_le _, rfl, HF, hO3, hg3⟩
    case round =>
      clear hO3 hg3
      obtain ⟨r, out, hr, rfl, HI, hO, hg⟩ := hrel
      by_cases hlt : r < l.length
      · have hri : (r : Int) < (l.length : Int) := by omega
        have HI2 : Hid (iterF (scI l) l.length (l.length - (r + 1)) (passF (scI l) l.length out) = F) := by
          show _ = _
          rw [← HI.out, show l.length - r = (l.length - (r + 1)) + 1 by omega]
          rfl
        go_wp2_with fail
        go_loopw [7] (fun t wr' => ∃ (i : Nat) (o : Nat → Bool), i ≤ l.length ∧ t = .int .i64 i ∧ Hid (((List.range l.length).drop i).foldl (stepF (scI l)) o = passF (scI l) l.length out) ∧ Ow Value.bool 4 wr' w.heap.size (.slice (some ⟨g5, 0, none⟩) l.length l.length) (bl l.length o) ∧ w.grownBy wr' none) (fun t _ => l.length - (intOf t).toNat)
        case atStart => exact ⟨0, out, Nat.zero_le _, rfl, rfl, hO, hg⟩
        case round =>
          clear hO hg
          obtain ⟨i, o, hi, rfl, HJ, hO, hg⟩ := hrel
          by_cases hlt' : i < l.length
          · have hii : (i : Int) < (l.length : Int) := by omega
            have HJ2 : Hid (((List.range l.length).drop (i + 1)).foldl (stepF (scI l)) (stepF (scI l) o i) = passF (scI l) l.length out) := by
              show _ = _
              rw [← HJ.out, drop_range l.length i hlt', List.foldl_cons]
            obtain ⟨cb, cf⟩ := hO.cellQ i (by rw [bl_len]; exact hlt')
            rw [bl_at] at cb
            have hg5 := (hO.lt g5 rfl)
            cases hok : o i with
            | false =>
              rw [hok] at cb
              rw [stepF_no _ _ _ hok] at HJ2
              clear hok
              go_wp2
              go_roundw
              case rel => exact ⟨i + 1, o, by omega, by go_num, HJ2, hO, hg⟩
              case measure => simp [intOf]; omega
            | true =>
              rw [hok] at cb
              rw [stepF_yes _ _ _ hok] at HJ2
              clear hok
              obtain ⟨_, _, _, b, off, rfl, hb, hcs⟩ := (HT.out.keptN hg).at i hlt'
              have hcsw : ∀ W : World, w.grownBy W none → ∀ j u, (In.cells (l.getD i d0))[j]? = some u → W.cell? ⟨b, off + i * 7 + j, none⟩ = some u := fun W hW => by
                obtain ⟨_, _, _, b', off', e, _, h⟩ := (HT.out.keptN hW).at i hlt'
                cases e
                exact h
              have Hsci : Hid (∀ j ∈ scI l i, j < l.length) := Hsc.out i hlt'
              have Hax : Hid (0 ≤ (l.getD i d0).a) := by
                have ho := List.all_eq_true.1 HR.out.ok _ (getD_mem hlt' d0)
                have := of_decide_eq_true (fit_lt (okI_parts ho).2.1).1
                exact this.1
              have Hsd : Hid (scI l i = (if hasT (l.getD i d0) then [(l.getD i d0).a.toNat] else []) ++ (if endsI (l.getD i d0) then [] else [i + 1])) := rfl
              have HTt := hide (qrtarget_any (l.getD i d0))
              have HEe := hide (qrends_any (l.getD i d0))
              have Htg : Hid (tgI (l.getD i d0) = if hasT (l.getD i d0) then (l.getD i d0).a else 0) := rfl
              have HCS := hide hcsw
              generalize l.getD i d0 = x at *
              obtain ⟨c0, c1, c2, c3, c4, c5, c6⟩ := cells7 hcs
              unfold In.val at HTt HEe
              clear hcs hcsw
              go_wp2_with fail
              refine (HTt.out _).mono ?_
              rintro e w3 ⟨rfl, hg3⟩
              have hgA := grown_up hg hg3
              have hO3 := hO.keptN (Kp.ofN hg3 none')
              clear c0 c1 c2 c3 c4 c5 c6 cb cf hO hg3
              cases hH : hasT x with
              | false =>
                rw [hH] at Hsd
                obtain ⟨c0, c1, c2, c3, c4, c5, c6⟩ := cells7 (HCS.out w3 hgA)
                clear hH
                go_wp2_with fail
                refine (HEe.out _).mono ?_
                rintro e w4 ⟨rfl, hg4⟩
                have hgB := grown_up hgA hg4
                have hO4 := hO3.keptN (Kp.ofN hg4 none')
                clear c0 c1 c2 c3 c4 c5 c6 hO3 hg4
                cases hE : endsI x with
                | true =>
                  rw [hE] at Hsd
                  rw [Hsd.out] at HJ2
                  clear hE
                  go_wp2
                  go_roundw
                  case rel => exact ⟨i + 1, o, by omega, by go_num, HJ2, hO4, hgB⟩
                  case measure => simp [intOf]; omega
                | false =>
                  rw [hE] at Hsd
                  rw [Hsd.out] at HJ2 Hsci
                  have hi1 : i + 1 < l.length := Hsci.out (i + 1) (by simp)
                  have hi1i : (i : Int) + 1 < (l.length : Int) := by omega
                  obtain ⟨cb, cf⟩ := hO4.cellQ (i + 1) (by rw [bl_len]; exact hi1)
                  have hst := hO4.stored (i + 1) true
                  rw [bl_set] at hst
                  have hgC := grown_new hgB hst.2 (fun j hj => by cases hj; exact hg5.1)
                  have hO5 := hst.1
                  clear hE hst
                  go_wp2
                  go_roundw
                  case rel => exact ⟨i + 1, upB o (i + 1), by omega, by go_num, HJ2, hO5, hgC⟩
                  case measure => simp [intOf]; omega
              | true =>
                rw [hH] at Hsd Htg
                rw [Htg.out]
                rw [Hsd.out] at HJ2 Hsci
                have hT1 : x.a.toNat < l.length := Hsci.out _ (by simp)
                obtain ⟨T, hTe⟩ := Int.eq_ofNat_of_zero_le Hax.out
                have hTn : x.a.toNat = T := by omega
                rw [hTn] at HJ2 hT1
                rw [show (if (true : Bool) = true then x.a else 0) = (T : Int) by rw [if_pos rfl]; exact hTe]
                have hTi : (T : Int) < (l.length : Int) := by omega
                obtain ⟨cb, cf⟩ := hO3.cellQ T (by rw [bl_len]; exact hT1)
                have hst := hO3.stored T true
                rw [bl_set] at hst
                have hgC := grown_new hgA hst.2 (fun j hj => by cases hj; exact hg5.1)
                have hO5 := hst.1
                clear hH hst hTe hTn
                go_upto_region 16 with fail
                clear cb cf hO3
                generalize w3.setCell ⟨g5, T, none⟩ (.bool true) = w5 at *
                obtain ⟨c0, c1, c2, c3, c4, c5, c6⟩ := cells7 (HCS.out w5 hgC)
                go_wp2_with fail
                refine (HEe.out _).mono ?_
                rintro e w4 ⟨rfl, hg4⟩
                have hgB := grown_up hgC hg4
                have hO4 := hO5.keptN (Kp.ofN hg4 none')
                clear c0 c1 c2 c3 c4 c5 c6 hO5 hg4
                cases hE : endsI x with
                | true =>
                  rw [hE] at HJ2
                  clear hE
                  go_wp2
                  go_roundw
                  case rel => exact ⟨i + 1, upB o T, by omega, by go_num, HJ2, hO4, hgB⟩
                  case measure => simp [intOf]; omega
                | false =>
                  rw [hE] at HJ2 Hsci
                  have hi1 : i + 1 < l.length := Hsci.out (i + 1) (by simp)
                  have hi1i : (i : Int) + 1 < (l.length : Int) := by omega
                  obtain ⟨cb, cf⟩ := hO4.cellQ (i + 1) (by rw [bl_len]; exact hi1)
                  have hst := hO4.stored (i + 1) true
                  rw [bl_set] at hst
                  have hgD := grown_new hgB hst.2 (fun j hj => by cases hj; exact hg5.1)
                  have hO6 := hst.1
                  clear hE hst
                  go_wp2
                  go_roundw
                  case rel => exact ⟨i + 1, upB (upB o T) (i + 1), by omega, by go_num, HJ2, hO6, hgD⟩
                  case measure => simp [intOf]; omega
          · obtain rfl : i = l.length := by omega
            have Ho : Hid (o = passF (scI l) l.length out) := by
              have := HJ.out
              rw [List.drop_of_length_le (by simp)] at this
              exact this
            rw [← Ho.out] at HI2
            go_wp2
            go_roundw
            case rel => exact ⟨r + 1, o, by omega, by go_num, HI2, hO, hg⟩
            case measure => simp [intOf]; omega
      · obtain rfl : r = l.length := by omega
        have Ho : Hid (bl l.length out = rchI l) := by
          have := HI.out
          rw [Nat.sub_self] at this
          show _ = _
          rw [HFin.out, ← this]
          rfl
        go_wp2
        go_ret
        exact ⟨_, rfl, by rw [← Ho.out]; exact hO.sl, hg⟩
  · have HL : Hid (reI l = []) := by show _ = _; unfold reI; rw [HE.out, if_neg h0]
    rw [HL.out]
    have t0 : (E != 0) = true := by simp [h0]
    clear h0
    go_enter Tryd.func14, Tryd.ntmps14
    go_wp2_with (go_at_call 22; refine HK.out.mono ?_; rintro e w1 ⟨rfl, hg1⟩)
    go_ret
    exact ⟨_, rfl, Sl.nil _ _ _, hg1⟩

end Go.Proofs.YtnldjloiafilmabDoor
