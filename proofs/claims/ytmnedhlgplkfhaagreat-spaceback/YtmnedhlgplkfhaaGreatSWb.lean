/- Contracts, over the turned program: a piece of work: Back. Conditions: those that each theorem states. -/
import Derived.Test.YtmnedhlgplkfhaaGreatSWh
namespace Go.Proofs.YtmnedhlgplkfhaaGreat
open Go.RowKit
set_option linter.unusedVariables false

theorem undoL_take (P : List ByteArray) (l : List Chg) (k : Nat) (h : k < l.length) : undoL P (l.take (k + 1)) = (undoL P (l.take k)).set l[k].page.toNat l[k].data := by
  rw [List.take_succ_eq_append_getElem h]
  unfold undoL
  rw [List.foldl_append]
  rfl
/-- The notes from j on are empty. -/
def clrN (NL : List (List Chg)) (j : Nat) : List (List Chg) := NL.take j ++ List.replicate (NL.length - j) []
theorem clrN_len (NL : List (List Chg)) (j : Nat) (hj : j ≤ NL.length) : (clrN NL j).length = NL.length := by
  unfold clrN
  rw [List.length_append, List.length_take, List.length_replicate]
  omega
theorem clrN_all (NL : List (List Chg)) : clrN NL NL.length = NL := by
  unfold clrN
  rw [List.take_length, Nat.sub_self]
  simp
theorem clrN_at (NL : List (List Chg)) (q : Nat) (hq : q < NL.length) : (clrN NL (q + 1))[q]? = some NL[q] := by
  unfold clrN
  rw [List.getElem?_append_left (by rw [List.length_take]; omega), List.getElem?_take, if_pos (by omega), List.getElem?_eq_getElem hq]
theorem clrN_set (NL : List (List Chg)) (q : Nat) (hq : q < NL.length) : (clrN NL (q + 1)).set q [] = clrN NL q := by
  unfold clrN
  rw [List.take_succ_eq_append_getElem hq, List.append_assoc, List.set_append_right _ _ (by rw [List.length_take]; omega), List.length_take, Nat.min_eq_left (by omega), Nat.sub_self]
  have e : NL.length - q = (NL.length - (q + 1)) + 1 := by omega
  rw [e, List.replicate_succ]
  rfl
theorem clrN_cut (NL : List (List Chg)) (q : Nat) (hq : q < NL.length) : (clrN NL q).take (q + 1) = NL.take q ++ [[]] := by
  unfold clrN
  rw [List.take_append, List.length_take, Nat.min_eq_left (by omega), List.take_of_length_le (by rw [List.length_take]; omega)]
  have e : NL.length - q = (NL.length - (q + 1)) + 1 := by omega
  rw [e, List.replicate_succ, show q + 1 - q = 1 by omega]
  rfl
/-- Later notes are gone. -/
theorem Wm.cut {w : World} {r gP : Nat} {V : Nat → Prop} {c : Nat} {P : List ByteArray} {NL : List (List Chg)} (H : Wm w r gP V c P NL) {gV nv cap : Nat} {vs : List Value}
    (d1 : w.cell? ⟨r, 3, none⟩ = some (.slice (some ⟨gV, 0, none⟩) nv cap)) (d2 : Ow (fun x : Value => x) 73 w 0 (.slice (some ⟨gV, 0, none⟩) nv cap) vs) (d3 : ∀ k, (Value.slice (some ⟨gV, 0, none⟩) nv cap).ownBlock = some k → V k ∧ k ≠ r ∧ k ≠ gP) (d4 : vs.length = NL.length)
    (d5 : ∀ i (h : i < vs.length) (h' : i < NL.length), OwC 76 w 0 vs[i] NL[i] ∧ ∀ k, vs[i].ownBlock = some k → V k ∧ k ≠ r ∧ k ≠ gP ∧ (Value.slice (some ⟨gV, 0, none⟩) nv cap).ownBlock ≠ some k)
    (d6 : ∀ i j (h : i < vs.length) (h' : j < vs.length), i ≠ j → ∀ k, vs[i].ownBlock = some k → vs[j].ownBlock ≠ some k)
    (hnv : nv = vs.length) (k : Nat) (hk : k ≤ NL.length) :
    Wm (w.setCell ⟨r, 3, none⟩ (.slice (some ⟨gV, 0, none⟩) k cap)) r gP V c P (NL.take k) ∧ Kp (only r) w (w.setCell ⟨r, 3, none⟩ (.slice (some ⟨gV, 0, none⟩) k cap)) := by
  have p3 := Put.set w r 3 (.slice (some ⟨gV, 0, none⟩) k cap) _ d1
  have old : ∀ j x, j ≠ 3 → w.cell? ⟨r, j, none⟩ = some x → (w.setCell ⟨r, 3, none⟩ (.slice (some ⟨gV, 0, none⟩) k cap)).cell? ⟨r, j, none⟩ = some x := fun j x h2 hx => by
    rw [p3.old _ _ (.inr h2)]
    exact hx
  obtain ⟨cN, b1, bO⟩ := H.c2
  have hgV := d3 gV rfl
  refine ⟨⟨old 0 _ (by omega) H.c0, old 1 _ (by omega) H.c1, ⟨cN, old 2 _ (by omega) b1, bO.kept p3.kp (fun b hb e => ?_)⟩, ⟨_, vs.take k, p3.same, (Ow.takeN d2 hnv k (by omega)).kept p3.kp (fun b hb e => ?_), fun b hb => d3 b hb, by rw [List.length_take, List.length_take, d4], fun i h h' => ?_, fun i j h h' hne b hb => ?_⟩, fun j => by rw [p3.fr]; exact H.fr j, H.gg⟩, p3.kp⟩
  · have hb2 : gP = b := Option.some.inj hb
    subst hb2
    exact H.gg.2.2 e
  · have hb2 : gV = b := Option.some.inj hb
    subst hb2
    exact hgV.2.1 e
  · have h1 : i < vs.length := by rw [List.length_take] at h; omega
    have h2 : i < NL.length := by omega
    have q1 : (vs.take k)[i] = vs[i] := List.getElem_take
    have q2 : (NL.take k)[i] = NL[i] := List.getElem_take
    rw [q1, q2]
    obtain ⟨a1, a2⟩ := d5 i h1 h2
    exact ⟨a1.kept p3.kp (fun b hb e => (a2 b hb).2.1 e), a2⟩
  · have h1 : i < vs.length := by rw [List.length_take] at h; omega
    have h2 : j < vs.length := by rw [List.length_take] at h'; omega
    have q1 : (vs.take k)[i] = vs[i] := List.getElem_take
    have q2 : (vs.take k)[j] = vs[j] := List.getElem_take
    rw [q1] at hb
    rw [q2]
    exact d6 i j h1 h2 hne b hb
set_option maxRecDepth 100000 in
set_option maxHeartbeats 1600000 in
theorem sback_any (r : Nat) (z : Int) (V : Nat → Prop) (c m : Nat) (S : Sw) (w : World) (H : Wk w r V c m S) (hm : m ≤ 5000) :
    Calls Tryz.prog 26 #[.pointer (some ⟨r, 0, none⟩), .int .i64 z] w fun e w' => e = .returned (.int .i64 (S.backE z)) ∧ Wk w' r (fun b => V b ∨ w.heap.size ≤ b) c m (S.back z) ∧ Kp V w w' := by
  have HS : Hid (Wk w r (fun b => V b ∨ w.heap.size ≤ b) c m S) := H.mono (fun _ _ h => .inl h) (Nat.le_refl _)
  rcases H with ⟨hov, c1, _⟩ | ⟨hov, gP, P, NL, hW, hA, hNm, hNl⟩
  · have e1 : S.backE z = 13 := by unfold Sw.backE; rw [hov]; rfl
    have e2 : S.back z = S := by unfold Sw.back; rw [e1]; rfl
    rw [e1, e2]
    have hr := srefusal_over r w c1
    go_enter Tryz.func26, Tryz.ntmps26
    go_wp2_with (first
      | (go_at_call 43; refine hr.mono ?_; rintro e w' ⟨rfl, rfl⟩)
      | fail)
    go_ret
    exact ⟨rfl, HS.out, Kp.refl _ _⟩
  · have hr := srefusal_ok r c w hW.c0 hW.c1
    have hn := hA.g.n
    obtain ⟨v0, vs0, d1, d2, _, d4, _, _⟩ := hW.c3
    obtain ⟨na, nc, hv, _⟩ := d2.open
    rw [d4] at hv
    by_cases hz : 0 ≤ z ∧ z < (NL.length : Int)
    · have e1 : S.backE z = 0 := by unfold Sw.backE; rw [hov, ← hn, if_pos hz]; rfl
      obtain ⟨n, hzn⟩ : ∃ n : Nat, z = (n : Int) := ⟨z.toNat, by omega⟩
      subst hzn
      have hnl : n < NL.length := by omega
      have e2 : S.back (n : Int) = { S with now := S.notes.getD n [], notes := S.notes.take (n + 1) } := by unfold Sw.back; rw [if_pos e1, Int.toNat_natCast]
      rw [e1, e2]
      have HA2 := hide (hA.back n hnl)
      have HB2 : Hid ((NL.take n ++ [[]]).length ≤ m ∧ ∀ l ∈ NL.take n ++ [[]], l.length ≤ m) := ⟨by rw [List.length_append, List.length_take]; simp; omega, fun l hl => by
        rcases List.mem_append.1 hl with h | h
        · exact hNl l (List.mem_of_mem_take h)
        · have : l = [] := by simpa using h
          subst this
          exact Nat.zero_le _⟩
      have HOV : Hid (({ S with now := S.notes.getD n [], notes := S.notes.take (n + 1) } : Sw).over = false) := hov
      have HPG := hide hA.g.pg
      have HLP : Hid (P.length ≤ 160) := hA.lens.2
      have HW0 : Hid (Wm w r gP (fun b => V b ∨ w.heap.size ≤ b) c (backTo P NL NL.length) (clrN NL NL.length)) := by
        show Wm _ _ _ _ _ _ _
        rw [clrN_all, backTo_len_self]
        exact hW.mono (fun _ _ h => .inl h)
      have hn0 : ¬ (n : Int) < 0 := by omega
      have hn1 : ¬ (NL.length : Int) ≤ (n : Int) := by omega
      have hnl5 : NL.length ≤ 5000 := by omega
      have hNl5 : Hid (∀ l ∈ NL, l.length ≤ 5000) := fun l hl => Nat.le_trans (hNl l hl) hm
      subst hv
      obtain ⟨L, HL⟩ : ∃ L, Hid (NL.length = L) := ⟨_, rfl⟩
      rw [HL.out] at d1 hn1 hnl hnl5
      clear hz e1 e2 hW hA d2 d4 hNl hNm hov hn
      go_enter Tryz.func26, Tryz.ntmps26
      go_wp2_with (first
        | (go_at_call 43; refine hr.mono ?_; rintro e w' ⟨rfl, hw'⟩; obtain rfl := hw'.symm)
        | fail)
      go_loopw [6] (fun t wr => ∃ j : Nat, n ≤ j ∧ j ≤ L ∧ t = .int .i64 ((j : Int) - 1) ∧ Wm wr r gP (fun b => V b ∨ w.heap.size ≤ b) c (backTo P NL j) (clrN NL j) ∧ Kp V w wr) (fun t _ => (intOf t + 1).toNat)
      case atStart => exact ⟨L, by omega, Nat.le_refl _, by go_num, by rw [← HL.out]; exact HW0.out, Kp.refl _ _⟩
      case round =>
        obtain ⟨j, hj1, hj2, rfl, hWj, hKj⟩ := hrel
        clear HW0 d1 hr
        by_cases hlt : n < j
        · obtain ⟨q, rfl⟩ : ∃ q, j = q + 1 := ⟨j - 1, by omega⟩
          have eq1 : (((q + 1 : Nat) : Int) - 1) = (q : Int) := by omega
          rw [eq1]
          have hnq : (n : Int) ≤ (q : Int) := by omega
          have hqL : (q : Int) < (L : Int) := by omega
          have hqN : q < NL.length := by rw [HL.out]; omega
          obtain ⟨v, vs, d1, d2, d3, d4, d5, d6⟩ := hWj.c3
          have hcl := clrN_len NL (q + 1) (by rw [HL.out]; exact hj2)
          have hqv : q < vs.length := by omega
          obtain ⟨na, nc, hv, hvk⟩ := d2.open
          rw [d4, hcl, HL.out] at hv
          obtain ⟨gV, hna, _, hcv⟩ := hvk q hqv
          subst hna
          subst hv
          have hd5 := d5 q hqv (by omega)
          have hce : (clrN NL (q + 1))[q]'(by omega) = NL[q] := by
            have := clrN_at NL q hqN
            rw [List.getElem?_eq_getElem (by omega)] at this
            exact Option.some.inj this
          rw [hce] at hd5
          obtain ⟨hOq, hbq⟩ := hd5
          have hugP : ¬ vs[q].ownBlock = some gP := fun e => (hbq gP e).2.2.1 rfl
          have hlq := hNl5.out _ (List.getElem_mem hqN)
          have hpq := HPG.out _ (List.getElem_mem hqN)
          have HB1 := hide (backTo_one P NL q hqN)
          have HCS := hide (clrN_set NL q hqN)
          obtain ⟨l, HLQ⟩ : ∃ l, Hid (NL[q] = l) := ⟨_, hide rfl⟩
          rw [HLQ.out] at hOq hlq hpq HB1
          obtain ⟨u, HUQ⟩ : ∃ u, Hid (vs[q] = u) := ⟨_, hide rfl⟩
          rw [HUQ.out] at hOq hcv hugP
          obtain ⟨ua, uc, huv⟩ := (hOq.chs).shape
          subst huv
          have hbl : (backTo P NL (q + 1)).length = P.length := backTo_len _ _ _
          obtain ⟨PJ, HPJ⟩ : ∃ PJ, Hid (backTo P NL (q + 1) = PJ) := ⟨_, rfl⟩
          rw [HPJ.out] at hWj HB1 hbl
          have HWJ := hide hWj
          have HOQ := hide hOq
          have HPQ := hide hpq
          clear d2 d3 d4 d5 d6 hvk hbq hce hcl hWj hOq hpq
          go_wp2
          go_loopw [44] (fun t wx => ∃ q2 : Nat, q2 ≤ l.length ∧ t = .int .i64 q2 ∧ Wm wx r gP (fun b => V b ∨ w.heap.size ≤ b) c (undoL PJ (l.take q2)) (clrN NL (q + 1)) ∧ OwC 76 wx 0 (.slice ua l.length uc) l ∧ Kp V w wx) (fun t _ => l.length - (intOf t).toNat)
          case atStart => exact ⟨0, Nat.zero_le _, rfl, HWJ.out, HOQ.out, hKj⟩
          case round =>
            obtain ⟨q2, hq2, rfl, hWx, hOx, hKx⟩ := hrel
            clear HWJ HOQ hKj d1 hcv
            by_cases hlt2 : q2 < l.length
            · have hqi : (q2 : Int) < (l.length : Int) := by omega
              obtain ⟨a', c', he, _, _, hcells⟩ := hOx.chs
              cases he
              obtain ⟨b, off, hba, _, hbl2, q0, q1⟩ := hcells q2 hlt2
              have hv := chg_var wr l[q2] 76
              have HUT := hide (undoL_take PJ l q2 hlt2)
              have hpx := HPQ.out _ (List.getElem_mem hlt2)
              obtain ⟨x, HX⟩ : ∃ x, Hid (l[q2] = x) := ⟨_, hide rfl⟩
              rw [HX.out] at q0 q1 hv HUT hpx
              obtain ⟨pg, dt⟩ := x
              dsimp only at q0 q1 hv HUT hpx
              obtain ⟨pn, rfl⟩ : ∃ pn : Nat, pg = (pn : Int) := ⟨pg.toNat, by omega⟩
              rw [Int.toNat_natCast] at HUT
              have hlx : (undoL PJ (l.take q2)).length = P.length := by rw [undoL_len, hbl]
              have hpn : pn < (undoL PJ (l.take q2)).length := by rw [hlx]; omega
              have k5 := Kp.alloc none' wr (.cells #[.int .i64 (pn : Int), .string dt] 76)
              have k5d := k5.then (Kp.drew none' _)
              have hW5 := hWx.keptN k5d
              obtain ⟨cN, g2, _⟩ := hW5.c2
              obtain ⟨g0, gf⟩ := hW5.pageAt pn hpn
              obtain ⟨p1, p2⟩ := hW5.putPage pn dt hpn
              rw [hlx] at g2
              have hO5 := (hOx.keptN k5d).kept p2 (fun b hb e => by have e' : b = gP := e; subst e'; exact hugP hb)
              rw [← HUT.out] at p1
              have HP1 := hide p1
              have HO5 := hide hO5
              have HK5 : Hid (Kp V w _) := (hKx.thenN k5d).trans p2 (fun _ _ h => h) (fun b hb e => by
                have e' : b = gP := e
                rw [e'] at hb ⊢
                rcases hWx.gg.2.1 with h | h
                · exact h
                · omega)
              obtain ⟨v0, v1⟩ := hv
              have hpnl : pn < P.length := by omega
              have hpni : (pn : Int) < (P.length : Int) := by omega
              obtain ⟨lp, HLp⟩ : ∃ lp, Hid (P.length = lp) := ⟨_, rfl⟩
              rw [HLp.out] at g2 hpni hpnl
              clear hcells hOx hO5 p1 p2 hW5 hWx hlx hpn hbl hpx
              subst hba
              go_upto_region 12 with fail
              obtain ⟨W5, H5⟩ : ∃ W5, Hid (wr.alloc (.cells #[.int .i64 (pn : Int), .string dt] 76) = W5) := ⟨_, rfl⟩
              rw [H5.out] at k5 k5d g2 g0 gf v0 v1 HP1 HO5 HK5 ⊢
              obtain ⟨B, HB⟩ : ∃ B, Hid (wr.heap.size = B) := ⟨_, rfl⟩
              rw [HB.out] at v0 v1 ⊢
              go_region
              all_goals go_wp2
              all_goals go_roundw
              all_goals first
                | exact ⟨q2 + 1, by omega, by go_num, HP1.out, HO5.out, HK5.out⟩
                | (simp [intOf]; omega)
            · obtain rfl : q2 = l.length := by omega
              rw [List.take_length, ← HB1.out] at hWx
              obtain ⟨v, vs', d1, d2, d3, d4, d5, d6⟩ := hWx.c3
              have hcl := clrN_len NL (q + 1) (by rw [HL.out]; exact hj2)
              have hqv' : q < vs'.length := by omega
              obtain ⟨na, nc', hv, hvk⟩ := d2.open
              rw [d4, hcl, HL.out] at hv
              obtain ⟨gV', hna, _, hcv⟩ := hvk q hqv'
              subst hna
              subst hv
              have hcf := (d2.cellAt q hqv').2
              obtain ⟨m1, m2⟩ := hWx.putNote d1 d2 d3 d4 d5 d6 q hqv' (u := .slice none 0 0) (l := []) (OwC.nil _ _ _) (Kp.refl _ _) (fun b hb => by cases hb)
              rw [HCS.out] at m1
              have HM1 := hide (m1.mono (V' := fun b => V b ∨ w.heap.size ≤ b) (fun b _ h => by
                rcases h with h | h
                · exact h
                · exact .inr (Nat.le_trans hKx.size h)))
              have HM2 : Hid (Kp V w (wr.setCell ⟨gV', q, none⟩ (.slice none 0 0))) := hKx.trans m2 (fun _ _ h => h) (fun b hb h => by
                rcases h with h | h
                · exact h
                · omega)
              clear m1 m2 d2 d3 d4 d5 d6 hvk hWx hOx hcl
              go_wp2
              go_roundw
              case rel => exact ⟨q, by omega, by omega, by go_num, HM1.out, HM2.out⟩
              case measure => first | (simp [intOf]; done) | (simp [intOf]; omega)
        · obtain rfl : j = n := by omega
          have hjn : ¬ (j : Int) ≤ (j : Int) - 1 := by omega
          obtain ⟨v, vs, d1, d2, d3, d4, d5, d6⟩ := hWj.c3
          have hcl := clrN_len NL j (by rw [HL.out]; omega)
          have hjv : j < vs.length := by rw [d4, hcl, HL.out]; exact hnl
          obtain ⟨na, nc, hv, hvk⟩ := d2.open
          rw [d4, hcl, HL.out] at hv
          obtain ⟨gV, hna, _, _⟩ := hvk j hjv
          subst hna
          subst hv
          have hLv : L = vs.length := by rw [d4, hcl, HL.out]
          have hjc : j + 1 ≤ nc := by
            rcases d2.2 with ⟨h, _⟩ | ⟨_, _, _, h, _, _, h2, _⟩
            · cases h
            · injection h with _ _ h3
              omega
          have hf3 := hWj.fr 3
          obtain ⟨m1, m2⟩ := hWj.cut d1 d2 d3 d4 d5 d6 hLv (j + 1) (by rw [hcl, HL.out]; omega)
          rw [clrN_cut NL j (by rw [HL.out]; exact hnl)] at m1
          have HM1 := hide m1
          have HM2 : Hid (Kp V w (wr.setCell ⟨r, 3, none⟩ (.slice (some ⟨gV, 0, none⟩) (j + 1) nc))) := hKj.trans m2 (fun _ _ h => h) (fun b hb e => by
            have e' : b = r := e
            rw [e'] at hb ⊢
            rcases hWj.gg.1 with h | h
            · exact h
            · omega)
          have hncm : nc ≤ maxLen := by
            rcases d2.2 with ⟨h, _⟩ | ⟨_, _, _, h, _, _, _, h3, _⟩
            · cases h
            · injection h with _ _ h4
              omega
          clear m1 m2 d2 d3 d4 d5 d6 hvk hWj hcl hLv
          go_wp2
          go_ret
          exact ⟨rfl, .inr ⟨HOV.out, gP, _, _, HM1.out, HA2.out, HB2.out.1, HB2.out.2⟩, HM2.out⟩
    · have e1 : S.backE z = 7 := by unfold Sw.backE; rw [hov, ← hn, if_neg hz]; rfl
      have e2 : S.back z = S := by unfold Sw.back; rw [e1]; rfl
      rw [e1, e2]
      subst hv
      obtain ⟨L, HL⟩ : ∃ L, Hid (NL.length = L) := ⟨_, rfl⟩
      rw [HL.out] at d1 hz
      clear hW hA d2 hn
      by_cases h0 : z < 0
      · clear hz
        go_enter Tryz.func26, Tryz.ntmps26
        go_wp2_with (first
          | (go_at_call 43; refine hr.mono ?_; rintro e w' ⟨rfl, rfl⟩)
          | fail)
        go_ret
        exact ⟨rfl, HS.out, Kp.refl _ _⟩
      · have h1 : (L : Int) ≤ z := by omega
        clear hz
        go_enter Tryz.func26, Tryz.ntmps26
        go_wp2_with (first
          | (go_at_call 43; refine hr.mono ?_; rintro e w' ⟨rfl, rfl⟩)
          | fail)
        go_ret
        exact ⟨rfl, HS.out, Kp.refl _ _⟩

end Go.Proofs.YtmnedhlgplkfhaaGreat
