/- Contracts, over the turned program: a piece of work: Changed, Commit. Conditions: those that each theorem states. -/
import Derived.Test.YtmnedhlgplkfhaaGreatSWk
import Derived.Test.YtmnedhlgplkfhaaGreatJK3
namespace Go.Proofs.YtmnedhlgplkfhaaGreat
open Go.RowKit
set_option linter.unusedVariables false

theorem Cz.more {w w' : World} {q : Cq} {F F' : Nat → Prop} {D : Dv} {Q : Nat → ByteArray} {M cm : Int} {s s' : St} {n n' : Nat} (h : Cz w w' q F F' D Q M cm s n s') (hn : n ≤ n') : Cz w w' q F F' D Q M cm s n' s' := ⟨h.c, h.f, h.k, Nat.le_trans h.b (by omega)⟩
theorem Cz.bound {w w' : World} {q : Cq} {F F' : Nat → Prop} {D : Dv} {Q : Nat → ByteArray} {M cm : Int} {s s' : St} {n : Nat} (h : Cz w w' q F F' D Q M cm s n s') : Cz w w' q F (fun k => F' k ∧ k < w'.heap.size) D Q M cm s n s' := ⟨Cas.mono h.c (fun k hk hf => ⟨hf, hk⟩), fun k hk => h.f k hk.1, h.k, h.b⟩
/-- The pages of a list of changes. -/
theorem chgC_pagesK (b l : List ByteArray) : (chgC l (chgs b l)).map Chg.page = chgK b l l.length := by
  rw [chgC_pages]
  rfl
set_option maxRecDepth 100000 in
set_option maxHeartbeats 1600000 in
theorem schanged_any {w : World} {r : Nat} {V : Nat → Prop} {q : Cq} {F : Nat → Prop} {D : Dv} {Q : Nat → ByteArray} {M cm : Int} {s : St} {m : Nat} {S : Sw} (H : Wk w r V q.c m S) (hC : Cst w q F D Q M cm s) (hd : ∀ k, k < w.heap.size → V k → ¬ F k) (hQ : S.over = false → q.n = S.now.length ∧ ∀ i, i < S.now.length → S.base.getD i ⟨#[]⟩ = Q i) (hb : s.h + s.m ≤ 900000000) :
    Calls Tryz.prog 17 #[.pointer (some ⟨r, 0, none⟩)] w fun e w' => ∃ v F' s', e = .returned v ∧ Ow (Value.int .i64) 3 w' w.heap.size v (if S.over then [] else chgK S.base S.now S.now.length) ∧ Cz w w' q F F' D Q M cm s 160 s' ∧ (∀ k, v.ownBlock = some k → ¬ F' k) := by
  rcases H with ⟨hov, c1, _⟩ | ⟨hov, gP, P, NL, hW, hA, hNm, hNl⟩
  · have hr := srefusal_over r w c1
    rw [hov]
    have HZ := hide ((Cz.refl hC).more (Nat.zero_le 160))
    clear hC
    go_enter Tryz.func17, Tryz.ntmps17
    go_wp2_with (first
      | (go_at_call 43; refine hr.mono ?_; rintro e w' ⟨rfl, hw'⟩; obtain rfl := hw'.symm)
      | fail)
    go_ret
    first | exact ⟨_, F, s, rfl, Ow.nil _ _ _ _, HZ.out, (fun k h => by cases h)⟩ | exact ⟨_, rfl, Ow.nil _ _ _ _, F, ⟨s, HZ.out⟩, (fun k h => by cases h)⟩ | exact ⟨_, rfl, Ow.nil _ _ _ _, F, s, HZ.out, (fun k h => by cases h)⟩
  · have hr := srefusal_ok r q.c w hW.c0 hW.c1
    rw [hov]
    have hlen := hA.a.len
    have hch := schanges_any hW hA hC (by rw [(hQ hov).1, hlen]) hd (fun i hi => (hQ hov).2 i (by rw [← hlen]; exact hi)) hb
    have HPG := hide (chgC_pagesK S.base S.now)
    have hl160 : (chgC S.now (chgs S.base S.now)).length ≤ 160 := by
      rw [← chgCK_all]
      exact Nat.le_trans (chgCK_len _ _ _) hA.l1
    have hPl := hA.lens.2
    obtain ⟨L, HL⟩ : ∃ L, Hid (chgC S.now (chgs S.base S.now) = L) := ⟨_, rfl⟩
    rw [HL.out] at hch HPG hl160
    have HE : Hid ((if false = true then [] else chgK S.base S.now S.now.length) = L.map Chg.page) := by show _ = _; rw [HPG.out]; rfl
    rw [HE.out]
    have HCH := hide hch
    obtain ⟨i0, hi, hz0, hz1, hz2⟩ := info_parts infoI
    clear hW hA hC hch hd hQ
    go_enter Tryz.func17, Tryz.ntmps17
    go_wp2_with (first
      | (go_at_call 43; refine hr.mono ?_; rintro e w' ⟨rfl, hw'⟩; obtain rfl := hw'.symm)
      | (go_at_call 46; refine HCH.out.mono ?_; rintro e w1 ⟨v, F', s', rfl, hO, hZ, hv⟩; obtain ⟨va, vc, rfl⟩ := (hO.chs).shape)
      | fail)
    have HO := hide hO
    have hZb := hZ.bound
    obtain ⟨FB, HFBE⟩ : ∃ FB : Nat → Prop, Hid ((fun k => F' k ∧ k < w1.heap.size) = FB) := ⟨_, rfl⟩
    have HFB : Hid (∀ j, FB j → j < w1.heap.size) := fun j h => by rw [← HFBE.out] at h; exact h.2
    rw [HFBE.out] at hZb
    have HZ1 := hide hZb
    clear hO hv hZ hZb
    go_loopw [3, 12] (fun u t wr => ∃ k : Nat, k ≤ L.length ∧ t = .int .i64 k ∧ Ow (Value.int .i64) 3 wr w.heap.size u ((L.take k).map Chg.page) ∧ OwC 76 wr w.heap.size (.slice va L.length vc) L ∧ Cz w wr q F FB D Q M cm s P.length s' ∧ w1.heap.size ≤ wr.heap.size ∧ (∀ j, u.ownBlock = some j → ¬ FB j ∧ ¬ (Value.slice va L.length vc).ownBlock = some j)) (fun _ t _ => L.length - (intOf t).toNat)
    case atStart => exact ⟨0, Nat.zero_le _, rfl, (show Ow _ _ _ _ _ [] from Ow.nil _ _ _ _), HO.out, HZ1.out, Nat.le_refl _, (fun j h => by cases h)⟩
    case round =>
      obtain ⟨k, hk, rfl, hU, hO, hZ, hw1, hj⟩ := hrel
      clear HO HZ1
      by_cases hlt : k < L.length
      · have hki : (k : Int) < (L.length : Int) := by omega
        obtain ⟨a', c', he, _, _, hcells⟩ := hO.chs
        cases he
        obtain ⟨b, off, hba, _, hbl2, q0, q1⟩ := hcells k hlt
        have hv := chg_var wr L[k] 76
        have HT : Hid ((L.take (k + 1)).map Chg.page = (L.take k).map Chg.page ++ [L[k].page]) := by show _ = _; rw [List.take_succ_eq_append_getElem hlt, List.map_append]; rfl
        obtain ⟨x, HX⟩ : ∃ x, Hid (L[k] = x) := ⟨_, hide rfl⟩
        rw [HX.out] at q0 q1 hv HT
        obtain ⟨pg, dt⟩ := x
        dsimp only at q0 q1 hv HT
        have k5 := Kp.alloc none' wr (.cells #[.int .i64 pg, .string dt] 76)
        have k6 := Kp.alloc none' (wr.alloc (.cells #[.int .i64 pg, .string dt] 76)) (.cells #[.int .i64 pg] 3)
        have hU6 := (hU.keptN k5).keptN k6
        have hO6 := (hO.keptN k5).keptN k6
        have hZ6 := (hZ.thenN k5).thenN k6
        have hsrc := src_cell (wr.alloc (.cells #[.int .i64 pg, .string dt] 76)) 41 3 Tryz.underlying41 (.int .i64 pg) rfl (wr.alloc (.cells #[.int .i64 pg, .string dt] 76)).heap.size rfl
        have hwsz : w.heap.size ≤ ((wr.alloc (.cells #[.int .i64 pg, .string dt] 76)).alloc (.cells #[.int .i64 pg] 3)).heap.size := Nat.le_trans hZ.k.size (Nat.le_trans k5.size k6.size)
        obtain ⟨v4, w4, hap, hO4, hg4, hv4⟩ := app_own (Value.int .i64) 41 3 41 _ 8 Tryz.underlying41 infoI (by rfl) (by omega) _ w.heap.size u3 ((L.take k).map Chg.page) _ [pg] hU6 hsrc hwsz (by rw [List.length_map, List.length_take]; simp only [List.length_cons, List.length_nil]; omega)
        have hk4 : Kp (fun j => u3.ownBlock = some j) _ w4 := Kp.ofGrown hg4 (fun j he _ => he)
        have hZ4 := hZ6.own hk4 (fun j h => ⟨(hU.lt j h).1, (hj j h).1⟩)
        have hO44 := hO6.kept hk4 (fun j h1 h2 => (hj j h2).2 h1)
        have HFIN : Hid (Ow (Value.int .i64) 3 w4 w.heap.size v4 ((L.take (k + 1)).map Chg.page) ∧ OwC 76 w4 w.heap.size (.slice va L.length vc) L ∧ Cz w w4 q F FB D Q M cm s P.length s' ∧ w1.heap.size ≤ w4.heap.size ∧ (∀ j, v4.ownBlock = some j → ¬ FB j ∧ ¬ (Value.slice va L.length vc).ownBlock = some j)) := by
          refine ⟨by rw [HT.out]; exact hO4, hO44, hZ4, Nat.le_trans hw1 (Nat.le_trans k5.size (Nat.le_trans k6.size hk4.size)), fun j hj4 => ?_⟩
          rcases hv4 with e | e
          · exact hj j (by rw [← e]; exact hj4)
          · rw [e] at hj4
            have hj5 := Option.some.inj hj4
            have k56 := k5.size
            have k66 := k6.size
            refine ⟨fun h => ?_, fun h => ?_⟩
            · have := HFB.out j h
              omega
            · have := (hO.lt j h).2
              omega
        have he5 : (wr.alloc (.cells #[.int .i64 pg, .string dt] 76)).heap.size = wr.heap.size + 1 := by simp
        obtain ⟨v0, v1⟩ := hv
        subst hba
        rw [he5] at hap
        clear hO4 hg4 hv4 hk4 hZ4 hO44 hU6 hO6 hZ6 hsrc hcells hO hZ
        go_wp2_with (first
          | (at_builtin; refine rwpList_app_at rfl (.tmp 16) (.tmp 19) 41 41 rfl _ _ rfl rfl hap ?_)
          | fail)
        go_roundw
        case rel => exact ⟨k + 1, by omega, by go_num, HFIN.out⟩
        case measure => simp [intOf]; omega
      · obtain rfl : k = L.length := by omega
        rw [List.take_length] at hU
        go_wp2
        go_ret
        exact ⟨_, FB, s', rfl, hU, hZ.more hPl, fun j h => (hj j h).1⟩

end Go.Proofs.YtmnedhlgplkfhaaGreat
