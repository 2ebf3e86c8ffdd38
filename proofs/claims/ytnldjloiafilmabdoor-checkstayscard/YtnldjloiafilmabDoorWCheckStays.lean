/- The walk of CheckStays, over a program and the table of operands as they lie in memory. -/
import Derived.Test.YtnldjloiafilmabDoorQL
namespace Go.Proofs.YtnldjloiafilmabDoor.checkStays
open Go.RowKit
set_option linter.unusedVariables false

theorem re_at {l : List In} (h : RunOk l) (i : Nat) (hi : i < (reI l).length) : (reI l)[i] = true ↔ Rch (scI l) i := by
  have e : reI l = rchI l := by unfold reI; rw [chk_zero l h]; rfl
  have hl : i < l.length := by rw [e] at hi; simpa [rchI] using hi
  rw [← rchI_at h i hl]
  have : (reI l)[i]? = (rchI l)[i]? := by rw [e]
  rw [← this, List.getElem?_eq_getElem hi]
  simp
theorem re_len {l : List In} (h : RunOk l) : (reI l).length = l.length := by
  have e : reI l = rchI l := by unfold reI; rw [chk_zero l h]; rfl
  rw [e]
  simp [rchI]

set_option maxRecDepth 100000 in
set_option maxHeartbeats 2000000 in
theorem walk (v : Value) (l : List In) (W : World) (hT : Ins W v l) (hwf : ∀ x ∈ l, x.wf) (hG : Glob W) :
    Calls Tryd.prog 5 #[v] W fun e W' => e = .returned (.bool true) ∧ W.grownBy W' none := by
  obtain ⟨a, c, rfl, h1, h2, h3⟩ := hT
  have hT : Ins W (.slice a l.length c) l := ⟨a, c, rfl, h1, h2, h3⟩
  clear h1 h2 h3
  obtain ⟨E, HE⟩ : ∃ E, Hid ((chkI l).1 = E) := ⟨_, rfl⟩
  obtain ⟨N, HN⟩ : ∃ N, Hid ((chkI l).2 = N) := ⟨_, rfl⟩
  have HCk := hide (fun w h => qcheck_any (.slice a l.length c) l w h hwf)
  rw [HE.out, HN.out] at HCk
  go_enter Tryd.func5, Tryd.ntmps5
  go_wp2_with fail
  refine (qlives_any _ hG).mono ?_
  rintro e w1 ⟨rfl, hg1⟩
  have hG1 := hG.keptN hg1
  have hT1 := hT.keptN hg1
  go_wp2_with fail
  refine (HCk.out _ hT1 hG1).mono ?_
  rintro e w2 ⟨rfl, hg2⟩
  have hG2 := hG1.keptN hg2
  have hT2 := hT1.keptN hg2
  go_wp2_with fail
  refine (qreached_any _ l _ hT2 hwf hG2).mono ?_
  rintro e w3 ⟨v3, rfl, hS3, hg3⟩
  have hT3 := hT2.keptN hg3
  have hgg := grown_up (grown_up hg1 hg2) hg3
  clear hT hT1 hT2 hG hG1 hg1 hg2 hg3
  by_cases h0 : E = 0
  · have HR : Hid (RunOk l) := (chk_ok l).1 (HE.out.trans h0)
    subst h0
    have hn0 : 0 < l.length := HR.out.l0
    have hn1 : l.length ≤ 64 := HR.out.l1
    have hn0i : (0 : Int) < (l.length : Int) := by omega
    have HRe := hide (fun i hi => re_at HR.out i hi)
    have Hlen := hide (re_len HR.out)
    obtain ⟨R, HRR⟩ : ∃ R, Hid (reI l = R) := ⟨_, rfl⟩
    rw [HRR.out] at hS3
    have HRe2 : Hid (∀ i (hi : i < R.length), R[i] = true ↔ Rch (scI l) i) := by
      have := HRR.out
      subst this
      exact HRe.out
    have HRl : Hid (R.length = l.length) := by show _ = _; rw [← HRR.out]; exact Hlen.out
    clear HRe Hlen
    obtain ⟨a3, c3, hv3, y1, y2, H3⟩ := hS3
    rw [HRl.out] at hv3 y1
    subst hv3
    have HS := hide H3
    clear y1 y2 H3
    have HT3 := hide hT3
    have Hsc := hide (sc_lt HR.out)
    obtain ⟨b0, o0, ha3, _, hc0⟩ := HS.out 0 (by have := HRl.out; omega)
    have Hr0 : Hid (R[0]'(by have := HRl.out; omega) = true) := (HRe2.out 0 (by have := HRl.out; omega)).2 Rch.zero
    rw [Hr0.out] at hc0
    subst ha3
    rw [Nat.add_zero] at hc0
    have HC3 : Hid (∀ i (hi : i < R.length), w3.cell? ⟨b0, o0 + i, none⟩ = some (.bool R[i])) := fun i hi => by
      obtain ⟨b, o, e, _, h⟩ := HS.out i hi
      cases e
      exact h
    clear HS
    go_wp2_with fail
    clear hc0 Hr0
    go_loopw [6] (fun t wr => ∃ k : Nat, k ≤ l.length ∧ t = .int .i64 k ∧ w3.grownBy wr none) (fun t _ => l.length - (intOf t).toNat)
    case atStart => exact ⟨0, Nat.zero_le _, rfl, World.grownBy.refl _ _⟩
    case round =>
      obtain ⟨k, hk, rfl, hg⟩ := hrel
      by_cases hlt : k < l.length
      · have hki : (k : Int) < (l.length : Int) := by omega
        obtain ⟨_, _, _, b, off, rfl, hb, hcs⟩ := (HT3.out.keptN hg).at k hlt
        have HCS : Hid (∀ w', w3.grownBy w' none → ∀ j u, (In.cells (l.getD k d0))[j]? = some u → w'.cell? ⟨b, off + k * 7 + j, none⟩ = some u) := fun w' hw => by
          obtain ⟨_, _, _, b', off', e, _, h⟩ := (HT3.out.keptN hw).at k hlt
          cases e
          exact h
        have hkR : k < R.length := by have := HRl.out; omega
        have Hsck : Hid (∀ j ∈ scI l k, j < l.length) := Hsc.out k hlt
        have Hax : Hid (0 ≤ (l.getD k d0).a) := by
          have ho := List.all_eq_true.1 HR.out.ok _ (getD_mem hlt d0)
          have := of_decide_eq_true (fit_lt (okI_parts ho).2.1).1
          exact this.1
        have Hsd : Hid (scI l k = (if hasT (l.getD k d0) then [(l.getD k d0).a.toNat] else []) ++ (if endsI (l.getD k d0) then [] else [k + 1])) := rfl
        have Htg : Hid (tgI (l.getD k d0) = if hasT (l.getD k d0) then (l.getD k d0).a else 0) := rfl
        have HTt := hide (qtarget_any (l.getD k d0))
        have HEn : Hid (endsI (l.getD k d0) = ((l.getD k d0).op == 9 || (l.getD k d0).op == 18 || (l.getD k d0).op == 19)) := rfl
        have Hgo : Hid (∀ j ∈ scI l k, ∀ hj : j < R.length, R[k] = true → R[j] = true) := fun j hj hjR h => (HRe2.out j hjR).2 (Rch.go k j ((HRe2.out k hkR).1 h) hj)
        generalize l.getD k d0 = x at *
        obtain ⟨c0, c1, c2, c3, c4, c5, c6⟩ := cells7 hcs
        unfold In.val at HTt
        clear hcs
        go_wp2_with fail
        refine (HTt.out _).mono ?_
        rintro e w4 ⟨rfl, hg4⟩
        have hg5 := grown_up hg hg4
        clear c0 c1 c2 c3 c4 c5 c6 hg4
        obtain ⟨c0, c1, c2, c3, c4, c5, c6⟩ := cells7 (HCS.out w4 hg5)
        have hck : w4.cell? ⟨b0, o0 + k, none⟩ = some (.bool R[k]) := by
          have := HC3.out k hkR
          exact (cell_same (hg5.block _ (lt_of_cell this) (by simp)) _).trans this
        cases hH : hasT x with
        | false =>
          rw [hH] at Hsd
          cases hrk : R[k] with
          | true =>
            rw [hrk] at hck
            have Hrk := hide hrk
            clear hrk
            go_upto_region 15 with fail
            have hrk := Hrk.out
            rcases ends_cases x.op with h | ⟨h, h'⟩ | ⟨h, h', h''⟩ | ⟨h, h', h''⟩
            · have t1 : (x.op != 9) = false := by simp [h]
              clear h
              go_wp2
              go_roundw
              case rel => exact ⟨k + 1, by omega, by go_num, hg5⟩
              case measure => simp [intOf]; omega
            · have t1 : (x.op != 9) = true := by simp [h]
              have t2 : (x.op != 18) = false := by simp [h']
              clear h h'
              go_wp2
              go_roundw
              case rel => exact ⟨k + 1, by omega, by go_num, hg5⟩
              case measure => simp [intOf]; omega
            · have t1 : (x.op != 9) = true := by simp [h]
              have t2 : (x.op != 18) = true := by simp [h']
              have t3 : (x.op != 19) = false := by simp [h'']
              clear h h' h''
              go_wp2
              go_roundw
              case rel => exact ⟨k + 1, by omega, by go_num, hg5⟩
              case measure => simp [intOf]; omega
            · have he : endsI x = false := by rw [HEn.out, beq_no h, beq_no h', beq_no h'']; rfl
              have t1 : (x.op != 9) = true := by simp [h]
              have t2 : (x.op != 18) = true := by simp [h']
              have t3 : (x.op != 19) = true := by simp [h'']
              rw [he] at Hsd
              have hm1 : k + 1 ∈ scI l k := by rw [Hsd.out]; simp
              have hk1 := Hsck.out _ hm1
              have hk1i : ¬ (l.length : Int) ≤ (k : Int) + 1 := by omega
              have hk1j : (k : Int) + 1 < (l.length : Int) := by omega
              have hk1R : k + 1 < R.length := by have := HRl.out; omega
              have hr1 : R[k + 1] = true := Hgo.out _ hm1 hk1R hrk
              have hcn : w4.cell? ⟨b0, o0 + (k + 1), none⟩ = some (.bool true) := by
                have := HC3.out _ hk1R
                rw [hr1] at this
                exact (cell_same (hg5.block _ (lt_of_cell this) (by simp)) _).trans this
              clear h h' h'' he hm1 hr1 hk1R
              clear hrk
              go_wp2
              go_roundw
              case rel => exact ⟨k + 1, by omega, by go_num, hg5⟩
              case measure => simp [intOf]; omega
          | false =>
            rw [hrk] at hck
            clear hrk
            go_upto_region 15 with fail
            rcases ends_cases x.op with h | ⟨h, h'⟩ | ⟨h, h', h''⟩ | ⟨h, h', h''⟩
            · have t1 : (x.op != 9) = false := by simp [h]
              clear h
              go_wp2
              go_roundw
              case rel => exact ⟨k + 1, by omega, by go_num, hg5⟩
              case measure => simp [intOf]; omega
            · have t1 : (x.op != 9) = true := by simp [h]
              have t2 : (x.op != 18) = false := by simp [h']
              clear h h'
              go_wp2
              go_roundw
              case rel => exact ⟨k + 1, by omega, by go_num, hg5⟩
              case measure => simp [intOf]; omega
            · have t1 : (x.op != 9) = true := by simp [h]
              have t2 : (x.op != 18) = true := by simp [h']
              have t3 : (x.op != 19) = false := by simp [h'']
              clear h h' h''
              go_wp2
              go_roundw
              case rel => exact ⟨k + 1, by omega, by go_num, hg5⟩
              case measure => simp [intOf]; omega
            · have he : endsI x = false := by rw [HEn.out, beq_no h, beq_no h', beq_no h'']; rfl
              have t1 : (x.op != 9) = true := by simp [h]
              have t2 : (x.op != 18) = true := by simp [h']
              have t3 : (x.op != 19) = true := by simp [h'']
              rw [he] at Hsd
              have hm1 : k + 1 ∈ scI l k := by rw [Hsd.out]; simp
              have hk1 := Hsck.out _ hm1
              have hk1i : ¬ (l.length : Int) ≤ (k : Int) + 1 := by omega
              have hk1j : (k : Int) + 1 < (l.length : Int) := by omega
              have hk1R : k + 1 < R.length := by have := HRl.out; omega
              clear h h' h'' he hm1 hk1R
              go_wp2
              go_roundw
              case rel => exact ⟨k + 1, by omega, by go_num, hg5⟩
              case measure => simp [intOf]; omega
        | true =>
          rw [hH] at Hsd Htg
          rw [Htg.out]
          obtain ⟨T, hTe⟩ := Int.eq_ofNat_of_zero_le Hax.out
          have hTn : x.a.toNat = T := by omega
          rw [hTn] at Hsd
          rw [show (if (true : Bool) = true then x.a else 0) = (T : Int) by rw [if_pos rfl]; exact hTe]
          have hmT : T ∈ scI l k := by rw [Hsd.out]; simp
          have hTl := Hsck.out _ hmT
          have hTi : ¬ (l.length : Int) ≤ (T : Int) := by omega
          have hTj : (T : Int) < (l.length : Int) := by omega
          have hT0 : ¬ (T : Int) < 0 := by omega
          have hTR : T < R.length := by have := HRl.out; omega
          clear hTe hTn
          cases hrk : R[k] with
          | true =>
            rw [hrk] at hck
            have hrT : R[T] = true := Hgo.out _ hmT hTR hrk
            have hcT : w4.cell? ⟨b0, o0 + T, none⟩ = some (.bool true) := by
              have := HC3.out _ hTR
              rw [hrT] at this
              exact (cell_same (hg5.block _ (lt_of_cell this) (by simp)) _).trans this
            have Hrk := hide hrk
            clear hrT hmT hTR hrk
            go_upto_region 15 with fail
            have hrk := Hrk.out
            rcases ends_cases x.op with h | ⟨h, h'⟩ | ⟨h, h', h''⟩ | ⟨h, h', h''⟩
            · have t1 : (x.op != 9) = false := by simp [h]
              clear h
              go_wp2
              go_roundw
              case rel => exact ⟨k + 1, by omega, by go_num, hg5⟩
              case measure => simp [intOf]; omega
            · have t1 : (x.op != 9) = true := by simp [h]
              have t2 : (x.op != 18) = false := by simp [h']
              clear h h'
              go_wp2
              go_roundw
              case rel => exact ⟨k + 1, by omega, by go_num, hg5⟩
              case measure => simp [intOf]; omega
            · have t1 : (x.op != 9) = true := by simp [h]
              have t2 : (x.op != 18) = true := by simp [h']
              have t3 : (x.op != 19) = false := by simp [h'']
              clear h h' h''
              go_wp2
              go_roundw
              case rel => exact ⟨k + 1, by omega, by go_num, hg5⟩
              case measure => simp [intOf]; omega
            · have he : endsI x = false := by rw [HEn.out, beq_no h, beq_no h', beq_no h'']; rfl
              have t1 : (x.op != 9) = true := by simp [h]
              have t2 : (x.op != 18) = true := by simp [h']
              have t3 : (x.op != 19) = true := by simp [h'']
              rw [he] at Hsd
              have hm1 : k + 1 ∈ scI l k := by rw [Hsd.out]; simp
              have hk1 := Hsck.out _ hm1
              have hk1i : ¬ (l.length : Int) ≤ (k : Int) + 1 := by omega
              have hk1j : (k : Int) + 1 < (l.length : Int) := by omega
              have hk1R : k + 1 < R.length := by have := HRl.out; omega
              have hr1 : R[k + 1] = true := Hgo.out _ hm1 hk1R hrk
              have hcn : w4.cell? ⟨b0, o0 + (k + 1), none⟩ = some (.bool true) := by
                have := HC3.out _ hk1R
                rw [hr1] at this
                exact (cell_same (hg5.block _ (lt_of_cell this) (by simp)) _).trans this
              clear h h' h'' he hm1 hr1 hk1R
              clear hrk
              go_wp2
              go_roundw
              case rel => exact ⟨k + 1, by omega, by go_num, hg5⟩
              case measure => simp [intOf]; omega
          | false =>
            rw [hrk] at hck
            clear hrk hmT hTR
            go_upto_region 15 with fail
            rcases ends_cases x.op with h | ⟨h, h'⟩ | ⟨h, h', h''⟩ | ⟨h, h', h''⟩
            · have t1 : (x.op != 9) = false := by simp [h]
              clear h
              go_wp2
              go_roundw
              case rel => exact ⟨k + 1, by omega, by go_num, hg5⟩
              case measure => simp [intOf]; omega
            · have t1 : (x.op != 9) = true := by simp [h]
              have t2 : (x.op != 18) = false := by simp [h']
              clear h h'
              go_wp2
              go_roundw
              case rel => exact ⟨k + 1, by omega, by go_num, hg5⟩
              case measure => simp [intOf]; omega
            · have t1 : (x.op != 9) = true := by simp [h]
              have t2 : (x.op != 18) = true := by simp [h']
              have t3 : (x.op != 19) = false := by simp [h'']
              clear h h' h''
              go_wp2
              go_roundw
              case rel => exact ⟨k + 1, by omega, by go_num, hg5⟩
              case measure => simp [intOf]; omega
            · have he : endsI x = false := by rw [HEn.out, beq_no h, beq_no h', beq_no h'']; rfl
              have t1 : (x.op != 9) = true := by simp [h]
              have t2 : (x.op != 18) = true := by simp [h']
              have t3 : (x.op != 19) = true := by simp [h'']
              rw [he] at Hsd
              have hm1 : k + 1 ∈ scI l k := by rw [Hsd.out]; simp
              have hk1 := Hsck.out _ hm1
              have hk1i : ¬ (l.length : Int) ≤ (k : Int) + 1 := by omega
              have hk1j : (k : Int) + 1 < (l.length : Int) := by omega
              have hk1R : k + 1 < R.length := by have := HRl.out; omega
              clear h h' h'' he hm1 hk1R
              go_wp2
              go_roundw
              case rel => exact ⟨k + 1, by omega, by go_num, hg5⟩
              case measure => simp [intOf]; omega
      · obtain rfl : k = l.length := by omega
        go_wp2
        go_ret
        exact ⟨rfl, grown_up hgg hg⟩
  · have t0 : (E != 0) = true := by simp [h0]
    have HL : Hid ((reI l).length = 0) := by show _ = _; unfold reI; rw [HE.out, if_neg h0]; rfl
    obtain ⟨a3, c3, hv3, y1, y2, H3⟩ := hS3
    rw [HL.out] at hv3
    subst hv3
    clear h0 y1 y2 H3
    go_wp2
    go_ret
    exact ⟨rfl, hgg⟩

end Go.Proofs.YtnldjloiafilmabDoor.checkStays
