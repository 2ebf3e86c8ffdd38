/- Contracts, over the turned program: a piece of work: SetHead, Save. Conditions: those that each theorem states. -/
import Derived.Test.YtmnedhlgplkfhaaGreatSWt
namespace Go.Proofs.YtmnedhlgplkfhaaGreat
open Go.RowKit
set_option linter.unusedVariables false

theorem head_eq0 (p x : ByteArray) (rk : Nat) (hrk : 236 - x.size = rk) : p.extract 0 20 ++ x ++ zeroB rk = headP p x := by
  have e : (p.extract 0 20 ++ x ++ zeroB rk).data.toList = p.data.toList.take 20 ++ x.data.toList ++ List.replicate (236 - x.size) 0 := by
    rw [ByteArray.data_append, ByteArray.data_append, Array.toList_append, Array.toList_append, ext_list, List.drop_zero, hrk]
    rfl
  unfold headP
  rw [← e]
set_option maxRecDepth 100000 in
set_option maxHeartbeats 1600000 in
theorem ssetHead_any (r : Nat) (x : ByteArray) (V : Nat → Prop) (c m : Nat) (S : Sw) (w : World) (H : Wk w r V c m S) (hm : m ≤ 5000) (hx : x.size ≤ 1000) :
    Calls Tryz.prog 30 #[.pointer (some ⟨r, 0, none⟩), .string x] w fun e w' => e = .returned (.int .i64 (S.setHeadE x)) ∧ Wk w' r (fun b => V b ∨ w.heap.size ≤ b) c (m + 1) (S.setHead x) ∧ Kp V w w' := by
  have HS : Hid (Wk w r (fun b => V b ∨ w.heap.size ≤ b) c (m + 1) S) := H.mono (fun _ _ h => .inl h) (by omega)
  rcases H with ⟨hov, c1, _⟩ | ⟨hov, gP, P, NL, hW, hA, hNm, hNl⟩
  · have e1 : S.setHeadE x = 13 := by unfold Sw.setHeadE; rw [hov]; rfl
    have e2 : S.setHead x = S := by unfold Sw.setHead; rw [e1]; rfl
    rw [e1, e2]
    have hr := srefusal_over r w c1
    go_enter Tryz.func30, Tryz.ntmps30
    go_wp2_with (first
      | (go_at_call 43; refine hr.mono ?_; rintro e w' ⟨rfl, rfl⟩)
      | fail)
    go_ret
    exact ⟨rfl, HS.out, Kp.refl _ _⟩
  · have hr := srefusal_ok r c w hW.c0 hW.c1
    obtain ⟨hl0, hl1⟩ := hA.lens
    by_cases h236 : 236 < x.size
    · have e1 : S.setHeadE x = 3 := by unfold Sw.setHeadE; rw [hov, if_pos h236]; rfl
      have e2 : S.setHead x = S := by unfold Sw.setHead; rw [e1]; rfl
      rw [e1, e2]
      have hxi : (236 : Int) < ((x.size : Nat) : Int) := by omega
      clear hW hA
      go_enter Tryz.func30, Tryz.ntmps30
      go_wp2_with (first
        | (go_at_call 43; refine hr.mono ?_; rintro e w' ⟨rfl, rfl⟩)
        | fail)
      go_ret
      exact ⟨rfl, HS.out, Kp.refl _ _⟩
    · have e1 : S.setHeadE x = 0 := by unfold Sw.setHeadE; rw [hov, if_neg h236]; rfl
      have e2 : S.setHead x = { S with now := S.now.set 0 (headP (pg0 S.now) x) } := by unfold Sw.setHead; rw [if_pos e1]
      rw [e1, e2]
      have hxi : ¬ (236 : Int) < ((x.size : Nat) : Int) := by omega
      have hx236 : x.size ≤ 236 := by omega
      have hp0 := hA.p0
      have hHs : (headP (pg0 P) x).size = 256 := headP_size _ _ hA.sP hx236
      have HA2 : Hid (Ag (P.set 0 (headP (pg0 P) x)) (chgN P NL 0) { S with now := S.now.set 0 (headP (pg0 S.now) x) }) := hA.chg 0 _ _ hl0 (by omega) (hA.a.head x hA.l0 hA.s0 hA.l1) (sizes_set hA.sz (by rw [← hp0]; exact hHs))
      have HB2 : Hid ((chgN P NL 0).length ≤ m + 1 ∧ ∀ l ∈ chgN P NL 0, l.length ≤ m + 1) := ⟨by rw [chgN_len]; omega, chgN_bound hNl⟩
      have HOV : Hid (({ S with now := S.now.set 0 (headP (pg0 S.now) x) } : Sw).over = false) := hov
      obtain ⟨cN, c2, _⟩ := hW.c2
      have d0 := (hW.pageAt 0 hl0).1
      have e0 : P.getD 0 ⟨#[]⟩ = pg0 P := rfl
      rw [e0] at d0
      have hs := hA.sP
      have HCH : Hid (∀ (W : World), Kp none' w W → Calls Tryz.prog 54 #[.pointer (some ⟨r, 0, none⟩), .int .i64 0, .string (headP (pg0 P) x)] W fun e w' => e = .returned (.tuple #[]) ∧ Wm w' r gP (fun b => V b ∨ w.heap.size ≤ b) c (P.set 0 (headP (pg0 P) x)) (chgN P NL 0) ∧ Kp V w w') := fun W hk => by
        refine (schange_any r gP c 0 V P NL (headP (pg0 P) x) W (hW.keptN hk) hl0 hl1 (by omega) (fun l hl => Nat.le_trans (hNl l hl) (by omega)) hA.g.pg).mono ?_
        rintro e w' ⟨rfl, a1, a2⟩
        exact ⟨rfl, a1.mono (fun b _ h => by rcases h with h | h; exact .inl h; exact .inr (Nat.le_trans hk.size h)), hk.nThen a2⟩
      obtain ⟨p, HP⟩ : ∃ p, Hid (pg0 P = p) := ⟨_, rfl⟩
      rw [HP.out] at d0 hs HA2 HCH
      obtain ⟨rk, HRK⟩ : ∃ rk : Nat, Hid (236 - x.size = rk) := ⟨_, rfl⟩
      have HHP := hide (head_eq0 p x rk HRK.out)
      have hze := szeros_any rk
      have HZE : Hid (∀ W : World, Calls Tryz.prog 55 #[.int .i64 (rk : Int)] W fun e w' => e = .returned (.string (zeroB rk)) ∧ Kp none' W w') := fun W => hze W (by have := HRK.out; omega)
      have hzs : (zeroB rk).size = rk := zeroB_size rk
      obtain ⟨Z, HZ⟩ : ∃ Z : ByteArray, Hid (zeroB rk = Z) := ⟨_, rfl⟩
      rw [HZ.out] at hzs HZE HHP
      have hli : (0 : Int) < (P.length : Int) := by omega
      obtain ⟨ln, HL⟩ : ∃ ln, Hid (P.length = ln) := ⟨_, rfl⟩
      rw [HL.out] at c2 hli
      have hwi : IntKind.i64.wrap (236 - ((x.size : Nat) : Int)) = (rk : Int) := by rw [← HRK.out, IntKind.wrap_i64]; omega
      have hl0n : 0 < ln := by omega
      have hrk : rk ≤ 236 := by have := HRK.out; omega
      have hb1 : ¬ 9223372036854775807 < 20 + x.size := by omega
      have hb2 : ¬ 9223372036854775807 < 20 + x.size + rk := by omega
      have hb3 : ¬ 9223372036854775807 < 20 + x.size + Z.size := by omega
      have c2d : w.drew.cell? ⟨r, 2, none⟩ = some (.slice (some ⟨gP, 0, none⟩) ln cN) := c2
      have d0d : w.drew.cell? ⟨gP, 0, none⟩ = some (.string p) := d0
      have kd : Kp none' w w.drew := Kp.drew none' w
      clear hW hA e1 e2 h236 hov hze hHs hp0
      go_enter Tryz.func30, Tryz.ntmps30
      go_upto_region 6 with (first
        | (go_at_call 43; refine hr.mono ?_; rintro e w' ⟨rfl, hw'⟩; obtain rfl := hw'.symm)
        | fail)
      go_region_law (first
        | (go_simp; go_at_call 55; refine (HZE.out _).mono ?_; rintro e w3 ⟨rfl, hk3⟩; have k3 := kd.then hk3; have c23 := hk3.cell c2d (fun h => h); have d03 := hk3.cell d0d (fun h => h))
        | (go_simp; go_at_call 54; (try rw [HHP.out]); refine (HCH.out _ k3).mono ?_; rintro e w4 ⟨rfl, hW4, hk4⟩)
        | fail)
      all_goals (
        go_wp2
        go_ret
        exact ⟨rfl, .inr ⟨HOV.out, gP, _, _, hW4, HA2.out, HB2.out.1, HB2.out.2⟩, hk4⟩)
theorem infoCs : (Tryz.prog.info? 73).map (fun i => (i.zero, i.size, i.bytes)) = some (some (.slice none 0 0), 1, 24) := by kernel_rfl
set_option maxRecDepth 100000 in
set_option maxHeartbeats 1600000 in
theorem ssave_any (r : Nat) (V : Nat → Prop) (c m : Nat) (S : Sw) (w : World) (H : Wk w r V c m S) (hm : m ≤ 5000) :
    Calls Tryz.prog 23 #[.pointer (some ⟨r, 0, none⟩)] w fun e w' => e = .returned (.int .i64 S.saveN) ∧ Wk w' r (fun b => V b ∨ w.heap.size ≤ b) c (m + 1) S.save ∧ Kp V w w' := by
  have HS : Hid (Wk w r (fun b => V b ∨ w.heap.size ≤ b) c (m + 1) S) := H.mono (fun _ _ h => .inl h) (by omega)
  rcases H with ⟨hov, c1, _⟩ | ⟨hov, gP, P, NL, hW, hA, hNm, hNl⟩
  · have e1 : S.saveN = 0 := by unfold Sw.saveN; rw [hov]; rfl
    have e2 : S.save = S := by unfold Sw.save; rw [hov]; rfl
    rw [e1, e2]
    have hr := srefusal_over r w c1
    go_enter Tryz.func23, Tryz.ntmps23
    go_wp2_with (first
      | (go_at_call 43; refine hr.mono ?_; rintro e w' ⟨rfl, rfl⟩)
      | fail)
    go_ret
    exact ⟨rfl, HS.out, Kp.refl _ _⟩
  · have hr := srefusal_ok r c w hW.c0 hW.c1
    have hn := hA.g.n
    have e1 : S.saveN = (NL.length : Int) := by unfold Sw.saveN; rw [hov, hn]; rfl
    have e2 : S.save = { S with notes := S.notes ++ [S.now] } := by unfold Sw.save; rw [hov]; rfl
    rw [e1, e2]
    obtain ⟨v, vs, d1, d2, d3, d4, d5, d6⟩ := hW.c3
    have ka := Kp.alloc none' w (.cells #[.slice none 0 0] 73)
    have hsrc := src_cell w 67 73 Tryz.underlying67 (.slice none 0 0) rfl w.heap.size rfl
    obtain ⟨v2, w2, hap, hO2, hgr2, hv2⟩ := app_own (fun x : Value => x) 67 73 67 _ 24 Tryz.underlying67 infoCs (by rfl) (by omega) (w.alloc (.cells #[.slice none 0 0] 73)) 0 v vs (.slice (some ⟨w.heap.size, 0, none⟩) 1 1) [.slice none 0 0] (d2.keptN ka) hsrc (Nat.zero_le _) (by simp only [List.length_cons, List.length_nil]; omega)
    have K2 : Kp (fun k => v.ownBlock = some k) w w2 := (ka.mono (fun _ _ h => h.elim)).then (Kp.ofGrown hgr2 (fun k he _ => he))
    have hrn : ¬ v.ownBlock = some r := fun h => (d3 r h).2.1 rfl
    have hgn : ¬ v.ownBlock = some gP := fun h => (d3 gP h).2.2 rfl
    have b2 := K2.cell d1 hrn
    have f2 : w2.frozen? ⟨r, 3, none⟩ = false := by rw [K2.frozen hW.lt hrn]; exact hW.fr 3
    have p3 := Put.set w2 r 3 v2 _ b2
    have hs1 : (w.alloc (.cells #[.slice none 0 0] 73)).heap.size = w.heap.size + 1 := by simp
    have hob2 : ∀ k, v2.ownBlock = some k → v.ownBlock = some k ∨ w.heap.size < k := fun k hk => by
      rcases hv2 with e | e
      · exact .inl (by rw [← e]; exact hk)
      · rw [e, hs1] at hk
        have : w.heap.size + 1 = k := Option.some.inj hk
        exact .inr (by omega)
    obtain ⟨cN, b1, bO⟩ := hW.c2
    have hrlt := hW.lt
    have hgPlt : gP < w.heap.size := (bO.lt gP rfl).2
    have KF : Kp (fun k => k = r ∨ v.ownBlock = some k) w (w2.setCell ⟨r, 3, none⟩ v2) := (K2.mono (fun k _ h => .inr h)).then (p3.kp.mono (fun k _ e => .inl e))
    have old : ∀ j x, j ≠ 3 → w.cell? ⟨r, j, none⟩ = some x → (w2.setCell ⟨r, 3, none⟩ v2).cell? ⟨r, j, none⟩ = some x := fun j x h2 hx => by
      rw [p3.old _ _ (.inr h2)]
      exact K2.cell hx hrn
    have HFIN : Hid (Wm (w2.setCell ⟨r, 3, none⟩ v2) r gP (fun b => V b ∨ w.heap.size ≤ b) c P (NL ++ [[]]) ∧ Kp V w (w2.setCell ⟨r, 3, none⟩ v2)) := by
      refine ⟨⟨old 0 _ (by omega) hW.c0, old 1 _ (by omega) hW.c1, ⟨cN, old 2 _ (by omega) b1, bO.kept KF (fun k hk e => ?_)⟩, ⟨v2, vs ++ [.slice none 0 0], p3.same, hO2.kept p3.kp (fun k hk e => ?_), fun k hk => ?_, by rw [List.length_append, List.length_append, d4]; rfl, fun i h h' => ?_, fun i j h h' hne k hk => ?_⟩, fun j => by rw [p3.fr, K2.frozen hrlt hrn]; exact hW.fr j, .inl hW.gg.1, .inl hW.gg.2.1, hW.gg.2.2⟩, KF.mono (fun k _ e => ?_)⟩
      · have hk2 : gP = k := Option.some.inj hk
        subst hk2
        rcases e with e | e
        · exact hW.gg.2.2 e
        · exact hgn e
      · have e' : k = r := e
        subst e'
        rcases hob2 _ hk with q | q
        · exact hrn q
        · omega
      · rcases hob2 k hk with q | q
        · exact ⟨.inl (d3 k q).1, (d3 k q).2⟩
        · exact ⟨.inr (by omega), by omega, by omega⟩
      · have hi : i < vs.length + 1 := by simpa using h
        have hN := h'
        by_cases hlt : i < vs.length
        · have q1 : (vs ++ [Value.slice none 0 0])[i] = vs[i] := List.getElem_append_left hlt
          have q2 : (NL ++ [[]])[i]'hN = NL[i]'(by omega) := List.getElem_append_left (by omega)
          rw [q1, q2]
          obtain ⟨a1, a2⟩ := d5 i hlt (by omega)
          refine ⟨a1.kept KF (fun k hk e => ?_), fun k hk => ⟨.inl (a2 k hk).1, (a2 k hk).2.1, (a2 k hk).2.2.1, fun e => ?_⟩⟩
          · rcases e with e | e
            · exact (a2 k hk).2.1 e
            · exact (a2 k hk).2.2.2 e
          · rcases hob2 k e with q | q
            · exact (a2 k hk).2.2.2 q
            · have := (a1.lt k hk).2
              omega
        · have hie : i = vs.length := by omega
          subst hie
          have q1 : (vs ++ [Value.slice none 0 0])[vs.length] = Value.slice none 0 0 := by simp
          have q2 : (NL ++ [[]])[vs.length]'hN = [] := by simp [d4]
          rw [q1, q2]
          exact ⟨OwC.nil _ _ _, fun k hk => by cases hk⟩
      · have hi : i < vs.length + 1 := by simpa using h
        have hj : j < vs.length + 1 := by simpa using h'
        by_cases hil : i < vs.length
        · have q1 : (vs ++ [Value.slice none 0 0])[i] = vs[i] := List.getElem_append_left hil
          rw [q1] at hk
          by_cases hjl : j < vs.length
          · have q2 : (vs ++ [Value.slice none 0 0])[j] = vs[j] := List.getElem_append_left hjl
            rw [q2]
            exact d6 i j hil hjl hne k hk
          · have hje : j = vs.length := by omega
            subst hje
            have q2 : (vs ++ [Value.slice none 0 0])[vs.length] = Value.slice none 0 0 := by simp
            rw [q2]
            intro e
            cases e
        · have hie : i = vs.length := by omega
          subst hie
          have q1 : (vs ++ [Value.slice none 0 0])[vs.length] = Value.slice none 0 0 := by simp
          rw [q1] at hk
          cases hk
      · rcases e with e | e
        · rw [e]; exact hW.gg.1
        · exact (d3 k e).1
    have HA2 := hide hA.save
    have HB2 : Hid ((NL ++ [[]]).length ≤ m + 1 ∧ ∀ l ∈ NL ++ [[]], l.length ≤ m + 1) := ⟨by simp; omega, fun l hl => by
      rcases List.mem_append.1 hl with h | h
      · exact Nat.le_succ_of_le (hNl l h)
      · have : l = [] := by simpa using h
        subst this
        exact Nat.zero_le _⟩
    have HOV : Hid (({ S with notes := S.notes ++ [S.now] } : Sw).over = false) := hov
    obtain ⟨na, nc, hv, _⟩ := d2.open
    rw [d4] at hv
    obtain ⟨na2, nc2, hv2e, _⟩ := hO2.open
    rw [List.length_append, d4, List.length_cons, List.length_nil] at hv2e
    subst hv
    subst hv2e
    have hb3 := p3.same
    obtain ⟨nl, HNL⟩ : ∃ nl, Hid (NL.length = nl) := ⟨_, rfl⟩
    have hnl : nl ≤ 5000 := by rw [← HNL.out]; omega
    try rw [Nat.zero_add] at HFIN hap hb3
    rw [HNL.out] at d1
    rw [HNL.out] at hap
    rw [HNL.out] at b2
    rw [HNL.out] at hb3
    rw [HNL.out] at HFIN
    rw [HNL.out]
    clear hW hA d2 d3 d4 d5 d6 hO2 hgr2 hv2 K2 hrn hgn p3 hob2 KF old bO hsrc ka e1 e2 hov hNl hNm hn hs1
    go_enter Tryz.func23, Tryz.ntmps23
    go_wp2_with (first
      | (go_at_call 43; refine hr.mono ?_; rintro e w' ⟨rfl, hw'⟩; obtain rfl := hw'.symm)
      | (at_builtin; refine rwpList_app_at rfl (.tmp 10) (.tmp 11) 67 67 rfl _ _ rfl rfl hap ?_)
      | fail)
    go_ret
    refine ⟨?_, .inr ⟨HOV.out, gP, _, _, HFIN.out.1, HA2.out, HB2.out.1, HB2.out.2⟩, HFIN.out.2⟩
    first | rfl | (refine reti ?_; omega) | (refine reti ?_; unfold wrap64; omega)

end Go.Proofs.YtmnedhlgplkfhaaGreat
