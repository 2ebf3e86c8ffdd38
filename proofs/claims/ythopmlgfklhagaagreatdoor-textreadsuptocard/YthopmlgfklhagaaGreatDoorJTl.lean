/- Contract, over the turned program: text.inst, where there are as many words as the Op has. Conditions: those that the theorem states. -/
import Derived.Test.YthopmlgfklhagaaGreatDoorJTk
namespace Go.Proofs.YthopmlgfklhagaaGreatDoor
open Go.RowKit
set_option linter.unusedVariables false

theorem nOps_op (op : Int) (h : op = 1) : nOps op = 1 := by rw [h]; exact nOps1
theorem isSp_iff (x : In) (ws : List (List UInt8)) : isSp x ws = true ↔ okI x = true ∧ wordsI x = ws := by
  unfold isSp
  rw [Bool.and_eq_true, decide_eq_true_iff]
  exact ⟨fun h => ⟨h.1, h.2.symm⟩, fun h => ⟨h.1, h.2.symm⟩⟩
theorem OpR.zero (ws : List (List UInt8)) (j : Nat) : OpR ws 0 j 0 := by unfold OpR; rw [if_neg (by omega)]
/-- What inst tells, out of what was read. -/
theorem ins_read (ws : List (List UInt8)) (x : In) (h : instU ws = if okI x = true ∧ wordsI x = ws then some x else none) :
    (isSp x ws = true → insV ws = x ∧ insB ws = true) ∧ (isSp x ws = false → insV ws = zI ∧ insB ws = false) := by
  constructor
  · intro hs
    rw [if_pos ((isSp_iff x ws).1 hs)] at h
    exact ⟨by unfold insV; rw [h]; rfl, by unfold insB; rw [h]; rfl⟩
  · intro hs
    rw [if_neg (fun hh => by rw [(isSp_iff x ws).2 hh] at hs; cases hs)] at h
    exact ⟨by unfold insV; rw [h]; rfl, by unfold insB; rw [h]; rfl⟩

set_option maxRecDepth 100000 in
set_option maxHeartbeats 1000000 in
theorem tinst_full (v : Value) (ws : List (List UInt8)) (w : World) (hS : Wds w v ws) (hne : ws ≠ []) (hsz : ∀ x ∈ ws, x.length ≤ 1099511627776) (hG : G14 w) (hN : ((ws.length : Nat) : Int) = szW (opU (ws.headD []))) :
    Calls Tryz.prog 12 #[v] w fun e w' => e = .returned (.tuple #[(insV ws).val, .bool (insB ws)]) ∧ w.grownBy w' none := by
  obtain ⟨hopk, hlen⟩ := szW_some ws hne hN
  have HS := hide hS
  obtain ⟨q, off, c, rfl, hq, hW⟩ := hS.open hne
  have hga := World.grownBy_alloc w (.cells #[.int .i64 0, .int .i64 0, .int .i64 0, .int .i64 0, .int .i64 0, .int .i64 0, .string ⟨#[]⟩] 35) none
  have hb : Ib (w.alloc (.cells #[.int .i64 0, .int .i64 0, .int .i64 0, .int .i64 0, .int .i64 0, .int .i64 0, .string ⟨#[]⟩] 35)) w.heap.size ⟨0, 0, 0, 0, ⟨0, 0, ⟨#[]⟩⟩⟩ := Ib.new w ⟨0, 0, 0, 0, ⟨0, 0, ⟨#[]⟩⟩⟩
  have hG1 := hG.keptN hga
  have hl : 0 < ws.length := List.length_pos_iff.2 hne
  have hc0 := hW.kept hq hga 0 hl
  rw [Nat.add_zero, head_getD] at hc0
  have hop := opOf_any (mkB (ws.headD [])) _ hG1
  rw [mkB_list] at hop
  have Hop := hide hop
  have Hsz := hide (size_any (opU (ws.headD [])) _ hG1)
  have hopd := operands_any (opU (ws.headD [])) _ hG1.op
  have Hone := hide (fun a b c v => inst_only ws a b c v)
  obtain ⟨nn, HNn⟩ : ∃ nn : Nat, Hid (nOps (opU (ws.headD [])) = nn) := ⟨_, rfl⟩
  have hnI : nOpI (opU (ws.headD [])) = (nn : Int) := by unfold nOpI; rw [hopk, if_pos rfl, HNn.out]
  have hn3 : nn ≤ 3 := by have := HNn.out; have := nOps_le (opU (ws.headD [])); omega
  have hwl : ws.length = 1 + nn + (if opU (ws.headD []) = 1 then 1 else 0) := by rw [hlen]; unfold wantW; rw [HNn.out]
  rw [hopk, hnI] at hopd
  have Hopi : Hid (ir (opU (ws.headD []))) := by
    show ir _
    have := of_decide_eq_true hopk
    unfold ir
    omega
  have Hopd := hide hopd
  rw [HNn.out] at Hone
  have Hsw := hide hsz
  generalize HO : opU (ws.headD []) = op at *
  generalize hX : mkB (ws.headD []) = X at *
  generalize hSz : szW op = S at *
  have h1 : (((ws.length : Nat) : Int) != S) = false := by rw [bne_eq_false_iff_eq]; exact hN
  have hl' : (0 : Int) < (ws.length : Int) := by omega
  have Hwl := hide hwl
  have hnl : nn < ws.length := by rw [hwl]; omega
  obtain ⟨N, HN⟩ : ∃ N, Hid (ws.length = N) := ⟨_, rfl⟩
  rw [HN.out] at h1 hl' hnl Hwl ⊢
  have HG := hide hG
  have Hq := hide hq
  have HW := hide hW
  have hgb := World.grownBy_alloc (w.alloc (.cells #[.int .i64 0, .int .i64 0, .int .i64 0, .int .i64 0, .int .i64 0, .int .i64 0, .string ⟨#[]⟩] 35)) (.cells #[.int .i64 0, .int .i64 0, .int .i64 0] 57) none
  have hb2 := hb.kept hgb (by simp)
  have hAb : Ab ((w.alloc (.cells #[.int .i64 0, .int .i64 0, .int .i64 0, .int .i64 0, .int .i64 0, .int .i64 0, .string ⟨#[]⟩] 35)).alloc (.cells #[.int .i64 0, .int .i64 0, .int .i64 0] 57)) (w.heap.size + 1) 0 0 0 := by
    have := heap_alloc_new (w.alloc (.cells #[.int .i64 0, .int .i64 0, .int .i64 0, .int .i64 0, .int .i64 0, .int .i64 0, .string ⟨#[]⟩] 35)) (.cells #[.int .i64 0, .int .i64 0, .int .i64 0] 57)
    rw [World.size_alloc] at this
    exact this
  have hg2 := grown_up hga hgb
  clear hop hopd hG hG1 hW hX hne hN hSz hb hsz hlen hopk hnI hwl hgb hga HO hS
  go_enter Tryz.func12, Tryz.ntmps12
  go_wp2_with (first
    | (go_at_call 22; refine (Hop.out).mono ?_; rintro e w1 ⟨rfl, rfl⟩)
    | (go_at_call 23; refine (Hsz.out).mono ?_; rintro e w1 ⟨rfl, rfl⟩)
    | (go_at_call 24; refine (Hopd.out).mono ?_; rintro e w1 ⟨rfl, rfl⟩))
  clear Hop Hsz Hopd hc0
  generalize hW2 : (w.alloc (.cells #[.int .i64 0, .int .i64 0, .int .i64 0, .int .i64 0, .int .i64 0, .int .i64 0, .string ⟨#[]⟩] 35)).alloc (.cells #[.int .i64 0, .int .i64 0, .int .i64 0] 57) = W2 at *
  clear hW2
  have HSk : Hid (w.heap.size < W2.heap.size) := hb2.lt
  go_loopw [26] (fun i wr => ∃ (k : Nat) (xx yy zz : Int), k ≤ nn ∧ i = .int .i64 k ∧ Ab wr (w.heap.size + 1) xx yy zz ∧ Ib wr w.heap.size ⟨0, 0, 0, 0, ⟨0, 0, ⟨#[]⟩⟩⟩ ∧ w.grownBy wr none ∧ Hid (OpR ws k 0 xx ∧ OpR ws k 1 yy ∧ OpR ws k 2 zz)) (fun i _ => nn - (intOf i).toNat)
  case atStart => exact ⟨0, 0, 0, 0, by omega, rfl, hAb, hb2, hg2, ⟨OpR.zero ws 0, OpR.zero ws 1, OpR.zero ws 2⟩⟩
  case round =>
    clear hAb hb2 hg2
    obtain ⟨k, xx, yy, zz, hk, rfl, hA, hB, hg, HR⟩ := hrel
    have hbl := hB.lt
    have hal := hA.lt
    by_cases hlt : k < nn
    · have hmN : 1 + (k : Int) < (N : Int) := by omega
      have hcm : wr.cell? ⟨q, off + (1 + k), none⟩ = some (.string (mkB (ws.getD (1 + k) []))) := HW.out.kept Hq.out hg (1 + k) (by rw [HN.out]; omega)
      have Hnum := hide (numberOf_any (mkB (ws.getD (1 + k) [])) wr (by
        rw [mkB_size]
        have : 1 + k < ws.length := by rw [HN.out]; omega
        rw [List.getD_eq_getElem?_getD, List.getElem?_eq_getElem this]
        exact Hsw.out _ (List.getElem_mem this)) (HG.out.keptN hg))
      have Hml : Hid ((mkB (ws.getD (1 + k) [])).data.toList = ws.getD (k + 1) []) := by show _ = _; rw [mkB_list, Nat.add_comm]
      generalize mkB (ws.getD (1 + k) []) = Y at *
      have k3 : k < 3 := by omega
      have k3' : (k : Int) < 3 := by omega
      clear hk
      go_wp2_with (go_at_call 25; refine (Hnum.out).mono ?_; rintro e w3 ⟨⟨z, rfl, hz⟩, hg3⟩; have Hz := hide hz; clear hz; have hA3 := hA.kept hg3 (by simp); have hB3 := hB.kept hg3 (by simp); have hP := hA3.put k k3 z; obtain ⟨u, hu⟩ := hP.2.2; have hf := hA3.fz k)
      go_roundw
      case rel =>
        refine ⟨k + 1, _, _, _, by omega, by go_num, hP.1, hB3.kept hP.2.1 (by simp), grown_new (grown_up hg hg3) hP.2.1 (fun j e => by cases e; omega), ?_⟩
        have hz := Hz.out
        rw [Hml.out] at hz
        exact ⟨HR.out.1.step hz, HR.out.2.1.step hz, HR.out.2.2.step hz⟩
      case measure => simp [intOf]; omega
    · have ek : k = nn := by omega
      have HR2 : Hid (OpR ws nn 0 xx ∧ OpR ws nn 1 yy ∧ OpR ws nn 2 zz) := by rw [← ek]; exact HR.out
      clear HR ek hk
      obtain ⟨o0, o1, o2⟩ := hA.cs
      have hM : Ib (wr.alloc (.cells #[.int .i64 op, .int .i64 xx, .int .i64 yy, .int .i64 zz, .int .i64 0, .int .i64 0, .string ⟨#[]⟩] 35)) wr.heap.size ⟨op, xx, yy, zz, ⟨0, 0, ⟨#[]⟩⟩⟩ := Ib.new wr ⟨op, xx, yy, zz, ⟨0, 0, ⟨#[]⟩⟩⟩
      have hgm := World.grownBy_alloc wr (.cells #[.int .i64 op, .int .i64 xx, .int .i64 yy, .int .i64 zz, .int .i64 0, .int .i64 0, .string ⟨#[]⟩] 35) none
      have hB2 := hB.kept hgm (by simp)
      have hgw := grown_up hg hgm
      by_cases e1 : op = 1
      · have e1' : (op == 1) = true := by simp [e1]
        have Hx : Hid (∀ v, ValE (ws.getD 2 []) v → instU ws = if okI ⟨op, xx, yy, zz, v⟩ = true ∧ wordsI ⟨op, xx, yy, zz, v⟩ = ws then some ⟨op, xx, yy, zz, v⟩ else none) := fun v hv => Hone.out xx yy zz v HR2.out.1 HR2.out.2.1 HR2.out.2.2 (by rw [if_pos e1]; exact hv)
        have Hwf : Hid (∀ v, v.wf → In.wf ⟨op, xx, yy, zz, v⟩) := fun v hv => ⟨hv, by show ir op; rw [e1]; exact ir_one, HR2.out.1.ir, HR2.out.2.1.ir, HR2.out.2.2.ir⟩
        have hn1 : nn = 1 := by rw [← HNn.out]; exact nOps_op op e1
        have hN3 : 2 < N := by have := Hwl.out; rw [if_pos e1] at this; omega
        have hmN : 1 + (nn : Int) < (N : Int) := by omega
        have hcm : (wr.alloc (.cells #[.int .i64 op, .int .i64 xx, .int .i64 yy, .int .i64 zz, .int .i64 0, .int .i64 0, .string ⟨#[]⟩] 35)).cell? ⟨q, off + (1 + nn), none⟩ = some (.string (mkB (ws.getD (1 + nn) []))) := HW.out.kept Hq.out hgw (1 + nn) (by rw [HN.out]; omega)
        have Hval := hide (valueOf_any (mkB (ws.getD (1 + nn) [])) (wr.alloc (.cells #[.int .i64 op, .int .i64 xx, .int .i64 yy, .int .i64 zz, .int .i64 0, .int .i64 0, .string ⟨#[]⟩] 35)) (by
          rw [mkB_size]
          have : 1 + nn < ws.length := by rw [HN.out]; omega
          rw [List.getD_eq_getElem?_getD, List.getElem?_eq_getElem this]
          exact Hsw.out _ (List.getElem_mem this)) (HG.out.keptN hgw))
        have Hml : Hid ((mkB (ws.getD (1 + nn) [])).data.toList = ws.getD 2 []) := by show _ = _; rw [mkB_list, hn1]
        generalize mkB (ws.getD (1 + nn) []) = Y at *
        clear hn1 hN3 e1
        go_wp2_with fail
        refine (Hval.out).mono ?_
        rintro e w4 ⟨⟨xv, rfl, hv⟩, hg4⟩
        rw [Hml.out] at hv
        have Hin := hide (Hx.out xv hv)
        have Hxw := hide (Hwf.out xv hv.1)
        have hM4 := hM.kept hg4 (by simp)
        have hB4 := hB2.kept hg4 (by simp)
        obtain ⟨m0, m1, m2, m3, m4, m5, m6⟩ := hM4.cs
        have f4 := hM4.fz 4; have f5 := hM4.fz 5; have f6 := hM4.fz 6
        have hP3 := hM4.put3 xv
        have hg5 : w.grownBy (put3 w4 wr.heap.size xv) none := grown_new (grown_up hgw hg4) hP3.2 (fun j e => by cases e; exact hg.size)
        have hB5 := hB4.kept hP3.2 (by simp; omega)
        have hM5 := hP3.1
        dsimp only at m0 m1 m2 m3 m4 m5 m6
        clear hv Hval hM hM4 hB4 hP3 hB2
        unfold V.val
        go_upto_region 14 with fail
        obtain ⟨w5, HW5⟩ : ∃ W, Hid (put3 w4 wr.heap.size xv = W) := ⟨_, rfl⟩
        rw [show ((w4.setCell ⟨wr.heap.size, 4, none⟩ (.int .i64 xv.k)).setCell ⟨wr.heap.size, 5, none⟩ (.int .i64 xv.n)).setCell ⟨wr.heap.size, 6, none⟩ (.string xv.s) = w5 from HW5.out]
        rw [HW5.out] at hM5 hB5 hg5
        clear m0 m1 m2 m3 m4 m5 m6 f4 f5 f6 HW5
        obtain ⟨m0, m1, m2, m3, m4, m5, m6⟩ := hM5.cs
        unfold In.setV at m0 m1 m2 m3 m4 m5 m6
        dsimp only at m0 m1 m2 m3 m4 m5 m6
        have Hsp := hide (isSpelt_any ⟨op, xx, yy, zz, xv⟩ _ ws w5 Hxw.out (HS.out.kept hg5) (by intro h; rw [h] at hl; simp at hl) (HG.out.keptN hg5))
        have Hans := hide (ins_read ws ⟨op, xx, yy, zz, xv⟩ Hin.out)
        rw [HN.out] at Hsp
        obtain ⟨R, HR⟩ : ∃ R, Hid (isSp ⟨op, xx, yy, zz, xv⟩ ws = R) := ⟨_, rfl⟩
        rw [HR.out] at Hsp Hans
        unfold In.val at Hsp
        dsimp only at Hsp
        cases R with
        | true =>
          have Ha := hide (Hans.out.1 rfl)
          go_wp2_with fail
          refine (Hsp.out).mono ?_
          rintro e w6 ⟨rfl, hg6⟩
          have hB6 := hB5.kept hg6 (by simp)
          have hM6 := hM5.kept hg6 (by simp)
          have hP := hB6.put7 ⟨op, xx, yy, zz, xv⟩
          have HP1 := hide hP.1
          have HP2 := hide (grown_new (grown_up hg5 hg6) hP.2 (fun j e => by cases e; exact Nat.le_refl _))
          obtain ⟨d0, d1, d2, d3, d4, d5, d6⟩ := hB6.cs
          have f0 := hB6.fz 0; have f1 := hB6.fz 1; have f2 := hB6.fz 2; have f3 := hB6.fz 3; have f4 := hB6.fz 4; have f5 := hB6.fz 5; have f6 := hB6.fz 6
          clear m0 m1 m2 m3 m4 m5 m6
          obtain ⟨m0, m1, m2, m3, m4, m5, m6⟩ := hM6.cs
          unfold In.setV at m0 m1 m2 m3 m4 m5 m6
          dsimp only at m0 m1 m2 m3 m4 m5 m6 d0 d1 d2 d3 d4 d5 d6
          clear hB6 hM6 hM5 hB5 hP Hsp
          generalize w.heap.size = g0 at *
          generalize wr.heap.size = g1 at *
          go_wp2_with fail
          refine bodyPost_ret (results_ib2 rfl _ g0 _ ⟨op, xx, yy, zz, xv⟩ _ rfl rfl HP1.out) rfl ?_
          exact ⟨by rw [Ha.out.1, Ha.out.2]; rfl, HP2.out⟩
        | false =>
          have Ha := hide (Hans.out.2 rfl)
          go_wp2_with fail
          refine (Hsp.out).mono ?_
          rintro e w6 ⟨rfl, hg6⟩
          have hB6 := hB5.kept hg6 (by simp)
          have hP := hB6.put7 zI
          have HP1 := hide hP.1
          have HP2 := hide (grown_new (grown_up hg5 hg6) hP.2 (fun j e => by cases e; exact Nat.le_refl _))
          obtain ⟨d0, d1, d2, d3, d4, d5, d6⟩ := hB6.cs
          have f0 := hB6.fz 0; have f1 := hB6.fz 1; have f2 := hB6.fz 2; have f3 := hB6.fz 3; have f4 := hB6.fz 4; have f5 := hB6.fz 5; have f6 := hB6.fz 6
          clear m0 m1 m2 m3 m4 m5 m6
          dsimp only at d0 d1 d2 d3 d4 d5 d6
          clear hB6 hM5 hB5 hP Hsp
          generalize w.heap.size = g0 at *
          go_wp2_with fail
          refine bodyPost_ret (results_ib2 rfl _ g0 _ zI _ rfl rfl HP1.out) rfl ?_
          exact ⟨by rw [Ha.out.1, Ha.out.2]; rfl, HP2.out⟩
      · have e1' : (op == 1) = false := by simp [e1]
        have Hin := hide (Hone.out xx yy zz ⟨0, 0, ⟨#[]⟩⟩ HR2.out.1 HR2.out.2.1 HR2.out.2.2 (by rw [if_neg e1]; rfl))
        have Hxw : Hid (In.wf ⟨op, xx, yy, zz, ⟨0, 0, ⟨#[]⟩⟩⟩) := ⟨zV_wf, Hopi.out, HR2.out.1.ir, HR2.out.2.1.ir, HR2.out.2.2.ir⟩
        obtain ⟨m0, m1, m2, m3, m4, m5, m6⟩ := hM.cs
        dsimp only at m0 m1 m2 m3 m4 m5 m6
        have hg5 := hgw
        have hB5 := hB2
        have hM5 := hM
        clear e1 hM hB2 hgw hgm hA hB
        go_upto_region 14 with fail
        obtain ⟨w5, HW5⟩ : ∃ W, Hid (wr.alloc (.cells #[.int .i64 op, .int .i64 xx, .int .i64 yy, .int .i64 zz, .int .i64 0, .int .i64 0, .string ⟨#[]⟩] 35) = W) := ⟨_, rfl⟩
        rw [HW5.out] at hM5 hB5 hg5 m0 m1 m2 m3 m4 m5 m6 ⊢
        clear HW5
        have Hsp := hide (isSpelt_any ⟨op, xx, yy, zz, ⟨0, 0, ⟨#[]⟩⟩⟩ _ ws w5 Hxw.out (HS.out.kept hg5) (by intro h; rw [h] at hl; simp at hl) (HG.out.keptN hg5))
        have Hans := hide (ins_read ws ⟨op, xx, yy, zz, ⟨0, 0, ⟨#[]⟩⟩⟩ Hin.out)
        rw [HN.out] at Hsp
        obtain ⟨R, HR⟩ : ∃ R, Hid (isSp ⟨op, xx, yy, zz, ⟨0, 0, ⟨#[]⟩⟩⟩ ws = R) := ⟨_, rfl⟩
        rw [HR.out] at Hsp Hans
        unfold In.val at Hsp
        dsimp only at Hsp
        cases R with
        | true =>
          have Ha := hide (Hans.out.1 rfl)
          go_wp2_with fail
          refine (Hsp.out).mono ?_
          rintro e w6 ⟨rfl, hg6⟩
          have hB6 := hB5.kept hg6 (by simp)
          have hM6 := hM5.kept hg6 (by simp)
          have hP := hB6.put7 ⟨op, xx, yy, zz, ⟨0, 0, ⟨#[]⟩⟩⟩
          have HP1 := hide hP.1
          have HP2 := hide (grown_new (grown_up hg5 hg6) hP.2 (fun j e => by cases e; exact Nat.le_refl _))
          obtain ⟨d0, d1, d2, d3, d4, d5, d6⟩ := hB6.cs
          have f0 := hB6.fz 0; have f1 := hB6.fz 1; have f2 := hB6.fz 2; have f3 := hB6.fz 3; have f4 := hB6.fz 4; have f5 := hB6.fz 5; have f6 := hB6.fz 6
          clear m0 m1 m2 m3 m4 m5 m6
          obtain ⟨m0, m1, m2, m3, m4, m5, m6⟩ := hM6.cs
          dsimp only at m0 m1 m2 m3 m4 m5 m6 d0 d1 d2 d3 d4 d5 d6
          clear hB6 hM6 hM5 hB5 hP Hsp
          generalize w.heap.size = g0 at *
          generalize wr.heap.size = g1 at *
          go_wp2_with fail
          refine bodyPost_ret (results_ib2 rfl _ g0 _ ⟨op, xx, yy, zz, ⟨0, 0, ⟨#[]⟩⟩⟩ _ rfl rfl HP1.out) rfl ?_
          exact ⟨by rw [Ha.out.1, Ha.out.2]; rfl, HP2.out⟩
        | false =>
          have Ha := hide (Hans.out.2 rfl)
          go_wp2_with fail
          refine (Hsp.out).mono ?_
          rintro e w6 ⟨rfl, hg6⟩
          have hB6 := hB5.kept hg6 (by simp)
          have hP := hB6.put7 zI
          have HP1 := hide hP.1
          have HP2 := hide (grown_new (grown_up hg5 hg6) hP.2 (fun j e => by cases e; exact Nat.le_refl _))
          obtain ⟨d0, d1, d2, d3, d4, d5, d6⟩ := hB6.cs
          have f0 := hB6.fz 0; have f1 := hB6.fz 1; have f2 := hB6.fz 2; have f3 := hB6.fz 3; have f4 := hB6.fz 4; have f5 := hB6.fz 5; have f6 := hB6.fz 6
          clear m0 m1 m2 m3 m4 m5 m6
          dsimp only at d0 d1 d2 d3 d4 d5 d6
          clear hB6 hM5 hB5 hP Hsp
          generalize w.heap.size = g0 at *
          go_wp2_with fail
          refine bodyPost_ret (results_ib2 rfl _ g0 _ zI _ rfl rfl HP1.out) rfl ?_
          exact ⟨by rw [Ha.out.1, Ha.out.2]; rfl, HP2.out⟩

end Go.Proofs.YthopmlgfklhagaaGreatDoor
