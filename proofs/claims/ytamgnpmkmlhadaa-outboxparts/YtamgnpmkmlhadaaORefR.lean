/- Contract, over the turned program: the message of bytes, as the document reads them. Conditions: those that each theorem states. -/
import Derived.Test.YtamgnpmkmlhadaaORef
namespace Go.Proofs.Ytamgnpmkmlhadaa
open Go Go.RowKit
set_option linter.unusedVariables false

theorem rt_no1 {k r : ByteArray} (h : ¬ doneE (nN (k, 0) 4).1 (nN (k, 0) 4).2 = 0) : ToldM k r zM 10 := by
  refine .inr ⟨rfl, rfl, fun y hy ky e1 e2 => h ?_⟩
  obtain ⟨_, b, _⟩ := pM_back k r y ky e1 e2
  rw [b]
  rfl
theorem rt_no2 {k r : ByteArray} (h : ¬ (tM r).2 = 0) : ToldM k r zM 10 := by
  refine .inr ⟨rfl, rfl, fun y hy ky e1 e2 => h ?_⟩
  obtain ⟨_, _, c⟩ := pM_back k r y ky e1 e2
  rw [c]
theorem rt_no3 {k r : ByteArray} {x : V} {er : Int} (h0 : (tM r).2 = 0) (hT : ToldW (tM r).1 x er) (h : ¬ (er = 0 ∧ okM (pM k r x) = true)) : ToldM k r zM 10 := by
  refine .inr ⟨rfl, rfl, fun y hy ky e1 e2 => h ?_⟩
  obtain ⟨a, _, c⟩ := pM_back k r y ky e1 e2
  rw [c] at hT
  obtain ⟨ex, ee⟩ := toldW_one hT (.inl ⟨rfl, (okM_parts ky).1, hy.2.2.2, rfl⟩)
  subst ex
  rw [a]
  exact ⟨ee, ky⟩
theorem rt_yes {k r : ByteArray} {x : V} (h1 : doneE (nN (k, 0) 4).1 (nN (k, 0) 4).2 = 0) (h0 : (tM r).2 = 0) (hT : ToldW (tM r).1 x 0) (h : okM (pM k r x) = true) : ToldM k r (pM k r x) 0 := by
  obtain ⟨d1, d2⟩ := (doneE_0 _ _).1 h1
  have hx : encC x = (tM r).1.data.toList := by
    rcases hT with ⟨_, _, _, e⟩ | ⟨e, _⟩
    · exact e
    · cases e
  obtain ⟨a, b⟩ := pM_key k r x d1 d2 h0 hx
  exact .inl ⟨rfl, h, pM_wf k r x (toldW_wf hT), a, b⟩
theorem tM_ext {r : ByteArray} (h : (tM r).2 = 0) : 3 ≤ r.size ∧ r.extract 3 r.size = (tM r).1 := by
  obtain ⟨b1, b2, _⟩ := num_of (nN (r, 0) 2) 1 h
  obtain ⟨_, c2, _⟩ := num_of (r, 0) 2 b1
  rw [b2] at c2
  have e : r.data.toList = be (nX (r, 0) 2) 2 ++ (be (nX (nN (r, 0) 2) 1) 1 ++ (tM r).1.data.toList) := c2
  have hl : r.data.toList.length = r.size := len_data r
  have hl2 : (tM r).1.data.toList.length = (tM r).1.size := len_data _
  have hs : r.size = 3 + (tM r).1.size := by
    rw [← hl, e, List.length_append, List.length_append, be_len, be_len, hl2]
    omega
  refine ⟨by omega, ?_⟩
  have e2 : (r.extract 3 r.size).data.toList = (tM r).1.data.toList := by
    rw [ext_list, e, ← List.append_assoc, List.drop_left' (by rw [List.length_append, be_len, be_len]), List.take_of_length_le (by omega)]
  rw [← mkB_self (r.extract 3 r.size), e2, mkB_self]
theorem tM_size (r : ByteArray) : (tM r).1.size ≤ r.size := Nat.le_trans (nN_size _ _) (nN_size (r, 0) 2)
theorem Mb.kp {w w' : World} {b : Nat} {m : Ms} {S : Nat → Prop} (h : Mb w b m) (hk : Kp S w w') (hS : ¬ S b) : Mb w' b m := by
  unfold Mb
  rw [hk.block b h.lt hS]
  exact h
set_option maxRecDepth 100000 in
set_option maxHeartbeats 3000000 in
theorem rread19_any (k r : ByteArray) (w : World) (hk : k.size ≤ maxLen) (hr : r.size ≤ maxLen) :
    Calls Try.prog 12 #[.string k, .string r] w fun e w' => ∃ (x : Ms) (er : Int), e = .returned (.tuple #[x.val, .int .i64 er]) ∧ ToldM k r x er ∧ w.grownBy w' none := by
  have hga := World.grownBy_alloc w (.cells #[.int .i64 0, .int .i64 0, .int .i64 0, .int .i64 0, .int .i64 0, .string ⟨#[]⟩] 26) none
  have A0 : Mb (w.alloc (.cells #[.int .i64 0, .int .i64 0, .int .i64 0, .int .i64 0, .int .i64 0, .string ⟨#[]⟩] 26)) w.heap.size zM := Mb.new w zM
  generalize hWA : w.alloc (.cells #[.int .i64 0, .int .i64 0, .int .i64 0, .int .i64 0, .int .i64 0, .string ⟨#[]⟩] 26) = WA at *
  have hsA : WA.heap.size = w.heap.size + 1 := by rw [← hWA, World.size_alloc]
  have hgb := World.grownBy_alloc WA (.cells #[.string k, .int .i64 0, .int .i64 0] 67) none
  have K0 : Rz (WA.alloc (.cells #[.string k, .int .i64 0, .int .i64 0] 67)) WA.heap.size k (k, 0) := Rz.new WA k hk
  have A1 := A0.kept hgb (by simp)
  generalize hWB : WA.alloc (.cells #[.string k, .int .i64 0, .int .i64 0] 67) = WB at *
  have hsB : WB.heap.size = w.heap.size + 1 + 1 := by rw [← hWB, World.size_alloc, hsA]
  have hgc := World.grownBy_alloc WB (.cells #[.string r, .int .i64 0, .int .i64 0] 67) none
  have R0 : Rz (WB.alloc (.cells #[.string r, .int .i64 0, .int .i64 0] 67)) WB.heap.size r (r, 0) := Rz.new WB r hr
  have A2 := A1.kept hgc (by simp)
  have K2 := K0.kept hgc (by simp)
  generalize hWC : WB.alloc (.cells #[.string r, .int .i64 0, .int .i64 0] 67) = WC at *
  have GC := grown_up (grown_up hga hgb) hgc
  rw [hsA] at K2
  rw [hsB] at R0
  obtain ⟨q, HQ⟩ : ∃ q, Hid (w.heap.size = q) := ⟨_, rfl⟩
  have hqq := HQ.out
  rw [hqq] at A2 K2 R0 hsA hsB
  have P2 : Kp none' w WC := Kp.ofN GC _
  have H0 := nX_lt (k, 0) 4
  have H1 := nX_lt (r, 0) 2
  have H2 := nX_lt (nN (r, 0) 2) 1
  rw [show (256 : Nat) ^ 4 = 4294967296 by decide] at H0
  rw [show (256 : Nat) ^ 2 = 65536 by decide] at H1
  rw [show (256 : Nat) ^ 1 = 256 by decide] at H2
  have hc0 := hide (fun W (H : Rz W (q + 1) k (k, 0)) => rznum_any (q + 1) k (k, 0) 4 4 wid4o W H)
  have hc1 := hide (fun W (H : Rz W (q + 1 + 1) r (r, 0)) => rznum_any (q + 1 + 1) r (r, 0) 2 2 wid2o W H)
  have hc2 := hide (fun W (H : Rz W (q + 1 + 1) r (nN (r, 0) 2)) => rznum_any (q + 1 + 1) r (nN (r, 0) 2) 1 1 wid1o W H)
  have hdn := hide (fun W (H : Rz W (q + 1) k (nN (k, 0) 4)) => rzdone_any (q + 1) k (nN (k, 0) 4) W H)
  have hP : Hid (∀ x, pM k r x = ⟨(nX (k, 0) 4 : Int), (nX (r, 0) 2 : Int), (nX (nN (r, 0) 2) 1 : Int), x⟩) := fun x => rfl
  have hN1 := hide (rt_no1 (k := k) (r := r))
  have hN2 := hide (rt_no2 (k := k) (r := r))
  have hN3 := hide (fun x er => rt_no3 (k := k) (r := r) (x := x) (er := er))
  have hYY := hide (fun x => rt_yes (k := k) (r := r) (x := x))
  have hEX := hide (tM_ext (r := r))
  have hTS := hide (tM_size r)
  rw [show tM r = nN (nN (r, 0) 2) 1 from rfl] at hN2 hN3 hYY hEX hTS
  generalize nX (k, 0) 4 = N0 at *
  generalize nX (r, 0) 2 = N1 at *
  generalize nX (nN (r, 0) 2) 1 = N2 at *
  generalize nN (nN (r, 0) 2) 1 = t2 at *
  generalize nN (r, 0) 2 = t1 at *
  generalize nN (k, 0) 4 = u1 at *
  have hw0 := nat_i64 N0 (by omega)
  have hw1 := nat_i64 N1 (by omega)
  have hw2 := nat_i64 N2 (by omega)
  clear K0 A0 A1 hgb hgc hga GC H0 H1 H2
  go_enter Try.func12, Try.ntmps12
  go_upto_region 3 with fail
  clear hWA hWB hWC hsA hsB
  go_upto_region 4 with (go_at_call 35; refine (hc0.out _ K2).mono ?_; clear hc0; rintro e w3 ⟨rfl, K3, g3⟩; have R3 := R0.kept g3 (by simp); have A3 := A2.kept g3 (by simp))
  have P3 : Kp none' w w3 := P2.trans (Kp.ofGrown (S := fun k => k = q + 1) g3 (fun k e _ => (Option.some.inj e).symm)) (fun _ _ h => h) (fun k hl h => by rw [hqq] at hl; omega)
  clear K2 R0 A2 P2 g3
  go_upto_region 5 with (go_at_call 35; refine (hc1.out _ R3).mono ?_; clear hc1; rintro e w4 ⟨rfl, R4, g4⟩; have K4 := K3.kept g4 (by simp); have A4 := A3.kept g4 (by intro e; have := Option.some.inj e; omega))
  have P4 : Kp none' w w4 := P3.trans (Kp.ofGrown (S := fun k => k = q + 1 + 1) g4 (fun k e _ => (Option.some.inj e).symm)) (fun _ _ h => h) (fun k hl h => by rw [hqq] at hl; omega)
  clear K3 R3 A3 P3 g4
  go_upto_region 6 with (go_at_call 35; refine (hc2.out _ R4).mono ?_; clear hc2; rintro e w5 ⟨rfl, R5, g5⟩; have K5 := K4.kept g5 (by simp); have A5 := A4.kept g5 (by intro e; have := Option.some.inj e; omega))
  have P5 : Kp none' w w5 := P4.trans (Kp.ofGrown (S := fun k => k = q + 1 + 1) g5 (fun k e _ => (Option.some.inj e).symm)) (fun _ _ h => h) (fun k hl h => by rw [hqq] at hl; omega)
  clear K4 R4 A4 P4 g5
  have hd5 := hdn.out w5 K5
  clear hdn K5
  by_cases hd : doneE u1.1 u1.2 = 0
  · rw [hd] at hd5
    by_cases he : t2.2 = 0
    · obtain ⟨hx3, hxe⟩ := hEX.out he
      have hx3' : (3 : Int) ≤ (r.size : Int) := by omega
      have hun := hide (fun W => runvalue9_any t2.1 W (Nat.le_trans hTS.out hr))
      have HYY := hide (fun x hT h => hYY.out x hd he hT h)
      have HN3 := hide (fun x er hT h => hN3.out x er he hT h)
      clear hN1 hN2 hN3 hYY hEX hx3
      go_upto_region 8 with (go_at_call 36; refine hd5.mono ?_; clear hd5; rintro e w6 ⟨rfl, g6⟩; have R6 := R5.kept g6 (by simp); have A6 := A5.kept g6 (by simp); have ce := R6.ce; rw [he] at ce)
      clear hd he ce R5 A5
      have P6 := P5.then (Kp.ofN g6 _)
      clear g6 R6 P5
      go_upto_region 9 with (go_at_call 37; refine (hun.out _).mono ?_; clear hun; rintro e w7 ⟨x, er, rfl, hT, g7⟩; have A7 := A6.kept g7 (by simp); unfold V.val)
      have P7 := P6.then (Kp.ofN g7 _)
      have hgv := World.grownBy_alloc w7 (.cells #[.int .i64 x.k, .int .i64 x.n, .string x.s] 24) none
      have V8 : Vb (w7.alloc (.cells #[.int .i64 x.k, .int .i64 x.n, .string x.s] 24)) w7.heap.size x := Vb.new w7 x
      have A8 := A7.kept hgv (by simp)
      have P8 := P7.then (Kp.ofN hgv _)
      have HYX := hide (fun (h0 : er = 0) h => HYY.out x (h0 ▸ hT) h)
      have HNX := hide (fun h => HN3.out x er hT h)
      have hPx := hP.out x
      clear hgv A7 g7 P7 A6 P6 HYY HN3 hT hP
      generalize w7.alloc (.cells #[.int .i64 x.k, .int .i64 x.n, .string x.s] 24) = W8 at *
      generalize w7.heap.size = vb at *
      have v0 := V8.c0
      have v1 := V8.c1
      have v2 := V8.c2
      rw [hPx] at HYX HNX
      clear hPx
      have hgm := World.grownBy_alloc W8 (.cells #[.int .i64 (N0 : Int), .int .i64 (N1 : Int), .int .i64 (N2 : Int), .int .i64 x.k, .int .i64 x.n, .string x.s] 26) none
      have M9 : Mb (W8.alloc (.cells #[.int .i64 (N0 : Int), .int .i64 (N1 : Int), .int .i64 (N2 : Int), .int .i64 x.k, .int .i64 x.n, .string x.s] 26)) W8.heap.size ⟨N0, N1, N2, x⟩ := Mb.new W8 ⟨N0, N1, N2, x⟩
      have A9 := A8.kept hgm (by simp)
      have P9 := P8.then (Kp.ofN hgm _)
      have hq8 := A8.lt
      clear hgm A8 P8
      go_upto_region 10 with fail
      generalize W8.alloc (.cells #[.int .i64 (N0 : Int), .int .i64 (N1 : Int), .int .i64 (N2 : Int), .int .i64 x.k, .int .i64 x.n, .string x.s] 26) = W9 at *
      generalize W8.heap.size = mb at *
      obtain ⟨m0, m1, m2, m3, m4, m5⟩ := M9.cs
      have HRi := hide (fun W => rright19_any ⟨N0, N1, N2, x⟩ W)
      unfold Ms.val at HRi
      dsimp only at HRi m0 m1 m2 m3 m4 m5
      clear v0 v1 v2 V8 hw0 hw1 hw2 hx3' hxe
      by_cases h0 : er = 0
      · subst h0
        cases hk : okM ⟨N0, N1, N2, x⟩ with
        | true =>
          have HT := hide (HYX.out rfl hk)
          rw [hk] at HRi
          clear hk HYX HNX
          go_upto_region 12 with (go_at_call 30; refine (HRi.out _).mono ?_; clear HRi; rintro e w10 ⟨rfl, g10⟩; have A10 := A9.kept g10 (by simp); have M10 := M9.kept g10 (by simp))
          have P10 := P9.then (Kp.ofN g10 _)
          obtain ⟨m0, m1, m2, m3, m4, m5⟩ := M10.cs
          dsimp only at m0 m1 m2 m3 m4 m5
          obtain ⟨y0, y1, y2, y3, y4, y5⟩ := A10.cs
          have f0 := A10.fz 0; have f1 := A10.fz 1; have f2 := A10.fz 2; have f3 := A10.fz 3; have f4 := A10.fz 4; have f5 := A10.fz 5
          have hh := A10.put ⟨N0, N1, N2, x⟩
          have PE : Kp none' w (w10.setCells q 0 (Ms.cells ⟨N0, N1, N2, x⟩)) := P10.trans (Kp.ofGrown (S := fun k => k = q) hh.2 (fun k e _ => (Option.some.inj e).symm)) (fun _ _ h => h) (fun k hl h => by rw [hqq] at hl; omega)
          have HH := hide hh.1
          have HPE := hide PE
          clear hh PE
          go_wp2_with fail
          refine bodyPost_ret (results_mb2 rfl _ q _ ⟨N0, N1, N2, x⟩ (.int .i64 0) rfl rfl HH.out) rfl ?_
          exact ⟨⟨N0, N1, N2, x⟩, 0, rfl, HT.out, HPE.out.grown⟩
        | false =>
          have HT := hide (HNX.out (fun h => by rw [hk] at h; cases h.2))
          rw [hk] at HRi
          clear hk HYX HNX
          go_upto_region 11 with (go_at_call 30; refine (HRi.out _).mono ?_; clear HRi; rintro e w10 ⟨rfl, g10⟩; have A10 := A9.kept g10 (by simp))
          have P10 := P9.then (Kp.ofN g10 _)
          obtain ⟨y0, y1, y2, y3, y4, y5⟩ := A10.cs
          have f0 := A10.fz 0; have f1 := A10.fz 1; have f2 := A10.fz 2; have f3 := A10.fz 3; have f4 := A10.fz 4; have f5 := A10.fz 5
          have hh := A10.put zM
          have PE : Kp none' w (w10.setCells q 0 (Ms.cells zM)) := P10.trans (Kp.ofGrown (S := fun k => k = q) hh.2 (fun k e _ => (Option.some.inj e).symm)) (fun _ _ h => h) (fun k hl h => by rw [hqq] at hl; omega)
          have HH := hide hh.1
          have HPE := hide PE
          clear hh PE
          go_wp2_with fail
          refine bodyPost_ret (results_mb2 rfl _ q _ zM (.int .i64 10) rfl rfl HH.out) rfl ?_
          exact ⟨zM, 10, rfl, HT.out, HPE.out.grown⟩
      · have HT := hide (HNX.out (fun h => h0 h.1))
        have h0' : (er != 0) = true := by simp [h0]
        clear HYX HNX h0
        go_upto_region 11 with fail
        obtain ⟨y0, y1, y2, y3, y4, y5⟩ := A9.cs
        have f0 := A9.fz 0; have f1 := A9.fz 1; have f2 := A9.fz 2; have f3 := A9.fz 3; have f4 := A9.fz 4; have f5 := A9.fz 5
        have hh := A9.put zM
        have PE : Kp none' w (W9.setCells q 0 (Ms.cells zM)) := P9.trans (Kp.ofGrown (S := fun k => k = q) hh.2 (fun k e _ => (Option.some.inj e).symm)) (fun _ _ h => h) (fun k hl h => by rw [hqq] at hl; omega)
        have HH := hide hh.1
        have HPE := hide PE
        clear hh PE
        go_wp2_with fail
        refine bodyPost_ret (results_mb2 rfl _ q _ zM (.int .i64 10) rfl rfl HH.out) rfl ?_
        exact ⟨zM, 10, rfl, HT.out, HPE.out.grown⟩
    · have HT := hide (hN2.out he)
      have he' : (t2.2 != 0) = true := by simp [he]
      clear hN1 hN2 hN3 hYY hEX
      go_upto_region 7 with (go_at_call 36; refine hd5.mono ?_; clear hd5; rintro e w6 ⟨rfl, g6⟩; have R6 := R5.kept g6 (by simp); have A6 := A5.kept g6 (by simp); have ce := R6.ce)
      have P6 := P5.then (Kp.ofN g6 _)
      obtain ⟨y0, y1, y2, y3, y4, y5⟩ := A6.cs
      have f0 := A6.fz 0; have f1 := A6.fz 1; have f2 := A6.fz 2; have f3 := A6.fz 3; have f4 := A6.fz 4; have f5 := A6.fz 5
      have hh := A6.put zM
      have PE : Kp none' w (w6.setCells q 0 (Ms.cells zM)) := P6.trans (Kp.ofGrown (S := fun k => k = q) hh.2 (fun k e _ => (Option.some.inj e).symm)) (fun _ _ h => h) (fun k hl h => by rw [hqq] at hl; omega)
      have HH := hide hh.1
      have HPE := hide PE
      clear hh PE
      go_wp2_with fail
      refine bodyPost_ret (results_mb2 rfl _ q _ zM (.int .i64 10) rfl rfl HH.out) rfl ?_
      exact ⟨zM, 10, rfl, HT.out, HPE.out.grown⟩
  · have HT := hide (hN1.out hd)
    generalize doneE u1.1 u1.2 = d at *
    have hd' : (d != 0) = true := by simp [hd]
    clear hN1 hN2 hN3 hYY hEX hd
    go_upto_region 7 with (go_at_call 36; refine hd5.mono ?_; clear hd5; rintro e w6 ⟨rfl, g6⟩; have A6 := A5.kept g6 (by simp))
    have P6 := P5.then (Kp.ofN g6 _)
    obtain ⟨y0, y1, y2, y3, y4, y5⟩ := A6.cs
    have f0 := A6.fz 0; have f1 := A6.fz 1; have f2 := A6.fz 2; have f3 := A6.fz 3; have f4 := A6.fz 4; have f5 := A6.fz 5
    have hh := A6.put zM
    have PE : Kp none' w (w6.setCells q 0 (Ms.cells zM)) := P6.trans (Kp.ofGrown (S := fun k => k = q) hh.2 (fun k e _ => (Option.some.inj e).symm)) (fun _ _ h => h) (fun k hl h => by rw [hqq] at hl; omega)
    have HH := hide hh.1
    have HPE := hide PE
    clear hh PE
    go_wp2_with fail
    refine bodyPost_ret (results_mb2 rfl _ q _ zM (.int .i64 10) rfl rfl HH.out) rfl ?_
    exact ⟨zM, 10, rfl, HT.out, HPE.out.grown⟩

end Go.Proofs.Ytamgnpmkmlhadaa
