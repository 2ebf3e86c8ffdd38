/- Contracts, over the turned program: the message that a key and bytes are. Conditions: those that each theorem states. -/
import Derived.Test.YtamgnpmkmlhadaaOWrt
namespace Go.Proofs.Ytamgnpmkmlhadaa
open Go Go.RowKit
set_option linter.unusedVariables false

theorem Mb.set0 {w : World} {b : Nat} {m : Ms} (h : Mb w b m) (x : Int) : Mb (w.setCell ⟨b, 0, none⟩ (.int .i64 x)) b ⟨x, m.f, m.t, m.v⟩ := heap_setCell_same w b 0 _ 26 (.int .i64 x) h
theorem Mb.set1 {w : World} {b : Nat} {m : Ms} (h : Mb w b m) (x : Int) : Mb (w.setCell ⟨b, 1, none⟩ (.int .i64 x)) b ⟨m.q, x, m.t, m.v⟩ := heap_setCell_same w b 1 _ 26 (.int .i64 x) h
theorem Mb.set2 {w : World} {b : Nat} {m : Ms} (h : Mb w b m) (x : Int) : Mb (w.setCell ⟨b, 2, none⟩ (.int .i64 x)) b ⟨m.q, m.f, x, m.v⟩ := heap_setCell_same w b 2 _ 26 (.int .i64 x) h
theorem Mb.setV {w : World} {b : Nat} {m : Ms} (h : Mb w b m) (x : V) : Mb (((w.setCell ⟨b, 3, none⟩ (.int .i64 x.k)).setCell ⟨b, 4, none⟩ (.int .i64 x.n)).setCell ⟨b, 5, none⟩ (.string x.s)) b ⟨m.q, m.f, m.t, x⟩ := by
  have h3 := heap_setCell_same w b 3 _ 26 (.int .i64 x.k) h
  have h4 := heap_setCell_same _ b 4 _ 26 (.int .i64 x.n) h3
  exact heap_setCell_same _ b 5 _ 26 (.string x.s) h4
theorem load_mb {w : World} {g : Nat} {x : Ms} (h : Mb w g x) : (loadVar 26 ⟨g, 0, none⟩).run Try.prog w = .ok x.val w := by
  obtain ⟨c0, c1, c2, c3, c4, c5⟩ := h.cs
  unfold Ms.val
  go_simp
theorem results_mb {fn : Func} {p : Tmp} (h : fn.results = #[.cell p 26]) (tmps : Array Value) (g : Nat) (W : World) (x : Ms) (hp : tmps.getD p undef = .pointer (some ⟨g, 0, none⟩)) (hV : Mb W g x) :
    (results fn tmps).run Try.prog W = .ok x.val W := by
  rw [results_one9 h, hp]
  simp [asAddr, Result.andThen, load_mb hV]
theorem gset (w : World) (b o : Nat) (v : Value) : w.grownBy (w.setCell ⟨b, o, none⟩ v) (some b) := ⟨rfl, rfl, rfl, by simp, fun k _ hk => heap_setCell_other w ⟨b, o, none⟩ k v (fun e => hk (by simp [e]))⟩
def lfR (r : ByteArray) : ByteArray := rawR (tM r).1 (tM r).2 (tM r).1.size
theorem lfR_ok {r : ByteArray} (h : (tM r).2 = 0) : lfR r = (tM r).1 := by
  unfold lfR rawR
  rw [if_neg (by omega)]
  show (tM r).1.extract 0 (tM r).1.size = _
  exact ByteArray.extract_zero_size
theorem lfR_size (r : ByteArray) (h : r.size ≤ maxLen) : (lfR r).size ≤ maxLen := by
  have a : (tM r).1.size ≤ r.size := Nat.le_trans (nN_size _ _) (nN_size (r, 0) 2)
  unfold lfR rawR
  split
  · exact Nat.zero_le _
  · rw [ByteArray.size_extract]; omega

set_option maxRecDepth 100000 in
set_option maxHeartbeats 2000000 in
theorem orm_any (kb rb : Nat) (k r : ByteArray) (w : World) (hk : Rq w kb (k, 0)) (hr : Rq w rb (r, 0)) (hne : kb ≠ rb) :
    Calls Try.prog 33 #[.pointer (some ⟨kb, 0, none⟩), .pointer (some ⟨rb, 0, none⟩)] w fun e w' => ∃ (x : V), e = .returned (pM k r x).val ∧ (∃ er : Int, ToldW (lfR r) x er) ∧ Kp (fun b => b = kb ∨ b = rb) w w' := by
  have hga := World.grownBy_alloc w (.cells #[.int .i64 0, .int .i64 0, .int .i64 0, .int .i64 0, .int .i64 0, .string ⟨#[]⟩] 26) none
  have A0 : Mb (w.alloc (.cells #[.int .i64 0, .int .i64 0, .int .i64 0, .int .i64 0, .int .i64 0, .string ⟨#[]⟩] 26)) w.heap.size zM := Mb.new w zM
  have hgb := World.grownBy_alloc (w.alloc (.cells #[.int .i64 0, .int .i64 0, .int .i64 0, .int .i64 0, .int .i64 0, .string ⟨#[]⟩] 26)) (.cells #[.int .i64 0, .int .i64 0, .int .i64 0, .int .i64 0, .int .i64 0, .string ⟨#[]⟩] 26) none
  have B0 : Mb ((w.alloc (.cells #[.int .i64 0, .int .i64 0, .int .i64 0, .int .i64 0, .int .i64 0, .string ⟨#[]⟩] 26)).alloc (.cells #[.int .i64 0, .int .i64 0, .int .i64 0, .int .i64 0, .int .i64 0, .string ⟨#[]⟩] 26)) (w.alloc (.cells #[.int .i64 0, .int .i64 0, .int .i64 0, .int .i64 0, .int .i64 0, .string ⟨#[]⟩] 26)).heap.size zM := Mb.new (w.alloc (.cells #[.int .i64 0, .int .i64 0, .int .i64 0, .int .i64 0, .int .i64 0, .string ⟨#[]⟩] 26)) zM
  have A1 := A0.kept hgb (by simp)
  have K1 := (hk.kept hga (by simp)).kept hgb (by simp)
  have R1 := (hr.kept hga (by simp)).kept hgb (by simp)
  have P1 : Kp (fun b => b = kb ∨ b = rb) w _ := Kp.ofN (grown_up hga hgb) _
  have hkl := hk.lt
  have hrl := hr.lt
  rw [World.size_alloc] at B0
  have H0 := nX_lt (k, 0) 4
  have H1 := nX_lt (r, 0) 2
  have H2 := nX_lt (nN (r, 0) 2) 1
  rw [show (256 : Nat) ^ 4 = 4294967296 by decide] at H0
  rw [show (256 : Nat) ^ 2 = 65536 by decide] at H1
  rw [show (256 : Nat) ^ 1 = 256 by decide] at H2
  have hc0 := hide (fun W (H : Rq W kb (k, 0)) => nnum_any kb (k, 0) 4 4 wid4o W H)
  have hc1 := hide (fun W (H : Rq W rb (r, 0)) => nnum_any rb (r, 0) 2 2 wid2o W H)
  have hc2 := hide (fun W (H : Rq W rb (nN (r, 0) 2)) => nnum_any rb (nN (r, 0) 2) 1 1 wid1o W H)
  have hT : Hid (tM r = nN (nN (r, 0) 2) 1) := rfl
  have hP : Hid (∀ x, pM k r x = ⟨(nX (k, 0) 4 : Int), (nX (r, 0) 2 : Int), (nX (nN (r, 0) 2) 1 : Int), x⟩) := fun x => rfl
  have hL : Hid (lfR r = rawR (nN (nN (r, 0) 2) 1).1 (nN (nN (r, 0) 2) 1).2 (nN (nN (r, 0) 2) 1).1.size) := rfl
  have hLs := hide (lfR_size r hr.2)
  generalize nX (k, 0) 4 = N0 at *
  generalize nX (r, 0) 2 = N1 at *
  generalize nX (nN (r, 0) 2) 1 = N2 at *
  generalize nN (nN (r, 0) 2) 1 = t2 at *
  generalize nN (r, 0) 2 = t1 at *
  have hw0 := nat_i64 N0 (by omega)
  have hw1 := nat_i64 N1 (by omega)
  have hw2 := nat_i64 N2 (by omega)
  clear H0 H1 H2 A0 hga hgb
  go_enter Try.func33, Try.ntmps33
  go_upto_region 2 with fail
  obtain ⟨q, HQ⟩ : ∃ q, Hid (w.heap.size = q) := ⟨_, rfl⟩
  have hqq := HQ.out
  have hsz := P1.size
  rw [hqq] at A1 B0 hkl hrl hsz ⊢
  generalize ((w.alloc (.cells #[.int .i64 0, .int .i64 0, .int .i64 0, .int .i64 0, .int .i64 0, .string ⟨#[]⟩] 26)).alloc (.cells #[.int .i64 0, .int .i64 0, .int .i64 0, .int .i64 0, .int .i64 0, .string ⟨#[]⟩] 26)) = W1 at *
  have hq1 := B0.lt
  go_upto_region 3 with (go_at_call 47; refine (hc0.out _ K1).mono ?_; clear hc0; rintro e w2 ⟨rfl, K2, g2⟩; have B2 := B0.kept g2 (by simp; omega); have A2 := A1.kept g2 (by simp; omega); have R2 := R1.kept g2 (by simp; omega); have f0 := B2.fz 0; have c0 := B2.cs.1)
  have hkq : kb ≠ q + 1 ∧ rb ≠ q + 1 ∧ q ≠ q + 1 ∧ kb ≠ q ∧ rb ≠ q := by omega
  have nk : some kb ≠ some (q + 1) := by intro e; exact hkq.1 (Option.some.inj e)
  have nr : some rb ≠ some (q + 1) := by intro e; exact hkq.2.1 (Option.some.inj e)
  have nq : some q ≠ some (q + 1) := by intro e; exact hkq.2.2.1 (Option.some.inj e)
  have nqr : some q ≠ some rb := by intro e; exact hkq.2.2.2.2 (Option.some.inj e).symm
  have npr : some (q + 1) ≠ some rb := by intro e; exact hkq.2.1 (Option.some.inj e).symm
  have B3 := B2.set0 (N0 : Int)
  have g3 := gset w2 (q + 1) 0 (.int .i64 N0)
  have A3 := A2.kept g3 nq
  have R3 := R2.kept g3 nr
  have P3 : Kp (fun b => b = kb ∨ b = rb) w (w2.setCell ⟨q + 1, 0, none⟩ (.int .i64 N0)) := (P1.then (Kp.ofGrown g2 (fun k e _ => .inl (Option.some.inj e).symm))).trans (Kp.ofGrown (S := fun k => k = q + 1) g3 (fun k e _ => (Option.some.inj e).symm)) (fun _ _ h => h) (fun k hl h => by rw [hqq] at hl; omega)
  generalize w2.setCell ⟨q + 1, 0, none⟩ (.int .i64 (N0 : Int)) = W3 at *
  clear B2 A2 R2 f0 c0 g2 g3 P1 K1 K2 A1 B0 R1 hw0
  go_upto_region 4 with (go_at_call 47; refine (hc1.out _ R3).mono ?_; clear hc1; rintro e w4 ⟨rfl, R4, g4⟩; have B4 := B3.kept g4 npr; have A4 := A3.kept g4 nqr; have f0 := B4.fz 1; have c0 := B4.cs.2.1)
  have B5 := B4.set1 (N1 : Int)
  have g5 := gset w4 (q + 1) 1 (.int .i64 N1)
  have A5 := A4.kept g5 nq
  have R5 := R4.kept g5 nr
  have P5 : Kp (fun b => b = kb ∨ b = rb) w (w4.setCell ⟨q + 1, 1, none⟩ (.int .i64 N1)) := (P3.then (Kp.ofGrown g4 (fun k e _ => .inr (Option.some.inj e).symm))).trans (Kp.ofGrown (S := fun k => k = q + 1) g5 (fun k e _ => (Option.some.inj e).symm)) (fun _ _ h => h) (fun k hl h => by rw [hqq] at hl; omega)
  generalize w4.setCell ⟨q + 1, 1, none⟩ (.int .i64 (N1 : Int)) = W5 at *
  clear B4 A4 R4 f0 c0 g4 g5 P3 B3 A3 R3 hw1
  go_upto_region 5 with (go_at_call 47; refine (hc2.out _ R5).mono ?_; clear hc2; rintro e w6 ⟨rfl, R6, g6⟩; have B6 := B5.kept g6 npr; have A6 := A5.kept g6 nqr; have f0 := B6.fz 2; have c0 := B6.cs.2.2.1)
  have B7 := B6.set2 (N2 : Int)
  have g7 := gset w6 (q + 1) 2 (.int .i64 N2)
  have A7 := A6.kept g7 nq
  have R7 := R6.kept g7 nr
  have P7 : Kp (fun b => b = kb ∨ b = rb) w (w6.setCell ⟨q + 1, 2, none⟩ (.int .i64 N2)) := (P5.then (Kp.ofGrown g6 (fun k e _ => .inr (Option.some.inj e).symm))).trans (Kp.ofGrown (S := fun k => k = q + 1) g7 (fun k e _ => (Option.some.inj e).symm)) (fun _ _ h => h) (fun k hl h => by rw [hqq] at hl; omega)
  generalize w6.setCell ⟨q + 1, 2, none⟩ (.int .i64 (N2 : Int)) = W7 at *
  clear B6 A6 R6 f0 c0 g6 g7 P5 B5 A5 R5 hw2
  have hlf := hide (left_any rb t2.1 t2.2 W7 R7.1)
  have hrw := hide (raw_any rb t2.1 t2.2 t2.1.size W7 R7.1 R7.2)
  rw [← hL.out] at hrw
  have hun := hide (fun W => eunvalue_any (lfR r) W hLs.out)
  obtain ⟨S0, hS0⟩ : ∃ S0, Hid (lfR r = S0) := ⟨_, rfl⟩
  rw [hS0.out] at hrw hun
  go_upto_region 6 with (first
    | (go_at_call 50; refine hlf.out.mono ?_; clear hlf; rintro e w8 ⟨rfl, rfl⟩)
    | (go_at_call 49; refine hrw.out.mono ?_; clear hrw; rintro e w9 ⟨rfl, _, g9⟩; have B9 := B7.kept g9 npr; have A9 := A7.kept g9 nqr)
    | (go_at_call 48; refine (hun.out _).mono ?_; clear hun; rintro e w10 ⟨x, er, rfl, hTx, g10⟩; have B10 := B9.kept g10 (by simp); have A10 := A9.kept g10 (by simp); obtain ⟨c0, c1, c2, c3, c4, c5⟩ := B10.cs; have f3 := B10.fz 3; have f4 := B10.fz 4; have f5 := B10.fz 5; unfold V.val))
  have B11 := B10.setV x
  have g11 := grown_trans (grown_trans (gset w10 (q + 1) 3 (.int .i64 x.k)) (gset _ (q + 1) 4 (.int .i64 x.n)) (.inl rfl)) (gset _ (q + 1) 5 (.string x.s)) (.inl rfl)
  have A11 := A10.kept g11 nq
  have P11 : Kp (fun b => b = kb ∨ b = rb) w _ := ((P7.then (Kp.ofGrown g9 (fun k e _ => .inr (Option.some.inj e).symm))).then (Kp.ofN g10 _)).trans (Kp.ofGrown (S := fun k => k = q + 1) g11 (fun k e _ => (Option.some.inj e).symm)) (fun _ _ h => h) (fun k hl h => by rw [hqq] at hl; omega)
  generalize ((w10.setCell ⟨q + 1, 3, none⟩ (.int .i64 x.k)).setCell ⟨q + 1, 4, none⟩ (.int .i64 x.n)).setCell ⟨q + 1, 5, none⟩ (.string x.s) = W at *
  clear c0 c1 c2 c3 c4 c5 f3 f4 f5 B10 A10 g9 g10 g11 P7 B9 A9
  obtain ⟨c0, c1, c2, c3, c4, c5⟩ := B11.cs
  obtain ⟨d0, d1, d2, d3, d4, d5⟩ := A11.cs
  have f0 := A11.fz 0
  have f1 := A11.fz 1
  have f2 := A11.fz 2
  have f3 := A11.fz 3
  have f4 := A11.fz 4
  have f5 := A11.fz 5
  have hh := A11.put ⟨N0, N1, N2, x⟩
  have PE : Kp (fun b => b = kb ∨ b = rb) w (W.setCells q 0 (Ms.cells ⟨N0, N1, N2, x⟩)) := P11.trans (Kp.ofGrown (S := fun k => k = q) hh.2 (fun k e _ => (Option.some.inj e).symm)) (fun _ _ h => h) (fun k hl h => by rw [hqq] at hl; omega)
  have HH := hide hh.1
  have HPE := hide PE
  clear hh PE
  dsimp only at c0 c1 c2 c3 c4 c5
  go_wp2_with fail
  refine bodyPost_ret (results_mb rfl _ q _ ⟨N0, N1, N2, x⟩ rfl HH.out) rfl ?_
  refine ⟨x, ?_, ⟨er, ?_⟩, HPE.out⟩
  · rw [hP.out]
  · rw [hS0.out]; exact hTx

theorem toldW_wf {s : ByteArray} {x : V} {er : Int} (h : ToldW s x er) : x.wf := by
  rcases h with ⟨_, _, h, _⟩ | ⟨_, rfl, _⟩
  · exact h
  · exact zM_wf.2.2.2
theorem told_yes {k r : ByteArray} {x : V} {er : Int} (hT : ToldW (lfR r) x er) (h1 : okM (pM k r x) = true) (h2 : keyM (pM k r x) = k.data.toList) (h3 : rstM (pM k r x) = r.data.toList) : ToldM k r (pM k r x) 0 :=
  .inl ⟨rfl, h1, pM_wf k r x (toldW_wf hT), h2, h3⟩
theorem told_no {k r : ByteArray} {x : V} {er : Int} (hT : ToldW (lfR r) x er) (h : ¬ (okM (pM k r x) = true ∧ keyM (pM k r x) = k.data.toList ∧ rstM (pM k r x) = r.data.toList)) : ToldM k r zM 10 := by
  refine .inr ⟨rfl, rfl, fun y hy ky e1 e2 => h ?_⟩
  obtain ⟨a, _, c⟩ := pM_back k r y ky e1 e2
  have hl : lfR r = mkB (encC y.v) := by rw [lfR_ok (by rw [c]), c]
  rw [hl] at hT
  have := (toldW_one hT (.inl ⟨rfl, (okM_parts ky).1, hy.2.2.2, rfl⟩)).1
  subst this
  rw [a]
  exact ⟨ky, e1, e2⟩
theorem neqB (a b : ByteArray) : (a.toList != b.toList) = !decide (a.data.toList = b.data.toList) := by
  show (!(a.toList == b.toList)) = _
  rw [toList_iff]
theorem results_mb2 {fn : Func} {p u : Tmp} (h : fn.results = #[.cell p 26, .tmp u]) (tmps : Array Value) (g : Nat) (W : World) (x : Ms) (er : Value) (hp : tmps.getD p undef = .pointer (some ⟨g, 0, none⟩)) (hu : tmps.getD u undef = er) (hV : Mb W g x) :
    (results fn tmps).run Try.prog W = .ok (.tuple #[x.val, er]) W := by
  rw [results_cell_tmp h, hp, hu]
  simp [asAddr, Result.andThen, load_mb hV]
set_option maxRecDepth 100000 in
set_option maxHeartbeats 2000000 in
theorem oread_any (k r : ByteArray) (w : World) (hk : k.size ≤ maxLen) (hr : r.size ≤ maxLen) :
    Calls Try.prog 11 #[.string k, .string r] w fun e w' => ∃ (x : Ms) (er : Int), e = .returned (.tuple #[x.val, .int .i64 er]) ∧ ToldM k r x er ∧ w.grownBy w' none := by
  have hga := World.grownBy_alloc w (.cells #[.int .i64 0, .int .i64 0, .int .i64 0, .int .i64 0, .int .i64 0, .string ⟨#[]⟩] 26) none
  have A0 : Mb (w.alloc (.cells #[.int .i64 0, .int .i64 0, .int .i64 0, .int .i64 0, .int .i64 0, .string ⟨#[]⟩] 26)) w.heap.size zM := Mb.new w zM
  generalize hWA : w.alloc (.cells #[.int .i64 0, .int .i64 0, .int .i64 0, .int .i64 0, .int .i64 0, .string ⟨#[]⟩] 26) = WA at *
  have hsA : WA.heap.size = w.heap.size + 1 := by rw [← hWA, World.size_alloc]
  have hgb := World.grownBy_alloc WA (.cells #[.string k, .int .i64 0] 83) none
  have K0 : Rq (WA.alloc (.cells #[.string k, .int .i64 0] 83)) WA.heap.size (k, 0) := ⟨Rd.new WA k 0, hk⟩
  have A1 := A0.kept hgb (by simp)
  generalize hWB : WA.alloc (.cells #[.string k, .int .i64 0] 83) = WB at *
  have hsB : WB.heap.size = w.heap.size + 1 + 1 := by rw [← hWB, World.size_alloc, hsA]
  have hgc := World.grownBy_alloc WB (.cells #[.string r, .int .i64 0] 83) none
  have R0 : Rq (WB.alloc (.cells #[.string r, .int .i64 0] 83)) WB.heap.size (r, 0) := ⟨Rd.new WB r 0, hr⟩
  have A2 := A1.kept hgc (by simp)
  have K2 := K0.kept hgc (by simp)
  generalize hWC : WB.alloc (.cells #[.string r, .int .i64 0] 83) = WC at *
  have hsC : WC.heap.size = w.heap.size + 1 + 1 + 1 := by rw [← hWC, World.size_alloc, hsB]
  have GC := grown_up (grown_up hga hgb) hgc
  rw [hsA] at K2
  rw [hsB] at R0
  have HRM := hide (orm_any (w.heap.size + 1) (w.heap.size + 1 + 1) k r WC K2 R0 (by omega))
  obtain ⟨q, HQ⟩ : ∃ q, Hid (w.heap.size = q) := ⟨_, rfl⟩
  have hqq := HQ.out
  have hF1 := from_any k WA
  rw [hWB, hsA] at hF1
  have hF2 := from_any r WB
  rw [hWC, hsB] at hF2
  rw [hqq] at HRM hF1 hF2 A2 hsC
  clear K0 A0 A1 hgb hgc hga K2 R0 hsA hsB
  go_enter Try.func11, Try.ntmps11
  go_upto_region 1 with fail
  clear hWA hWB hWC
  go_upto_region 2 with (first
    | (go_at_call 34; refine hF1.mono ?_; clear hF1; rintro e w1 ⟨rfl, rfl⟩)
    | (go_at_call 34; refine hF2.mono ?_; clear hF2; rintro e w1 ⟨rfl, rfl⟩)
    | (go_at_call 33; refine HRM.out.mono ?_; clear HRM; rintro e w2 ⟨x, rfl, ⟨er, hT⟩, k2⟩; have P2 : Kp none' w w2 := (Kp.ofN GC _).trans k2 (fun _ _ h => h) (fun j hl h => by rcases h with h | h <;> omega); have A3 : Mb w2 q zM := (by have := k2.block q (by omega) (fun h => by rcases h with h | h <;> omega); unfold Mb; rw [this]; exact A2); unfold Ms.val))
  have hwf := pM_wf k r x (toldW_wf hT)
  have HY := hide (fun h1 h2 h3 => told_yes (k := k) hT h1 h2 h3)
  have HN := hide (fun h => told_no (k := k) hT h)
  have hW := hide (fun W => owrite_any (pM k r x) W hwf)
  generalize pM k r x = m at *
  have hgd := World.grownBy_alloc w2 (.cells #[.int .i64 m.q, .int .i64 m.f, .int .i64 m.t, .int .i64 m.v.k, .int .i64 m.v.n, .string m.v.s] 26) none
  have A4 := A3.kept hgd (by simp)
  have M4 : Mb (w2.alloc (.cells #[.int .i64 m.q, .int .i64 m.f, .int .i64 m.t, .int .i64 m.v.k, .int .i64 m.v.n, .string m.v.s] 26)) w2.heap.size m := Mb.new w2 m
  have P4 := P2.then (Kp.ofN hgd _)
  have hqm := A3.lt
  clear k2 P2 A3 hgd A2 GC hT hsC
  generalize w2.alloc (.cells #[.int .i64 m.q, .int .i64 m.f, .int .i64 m.t, .int .i64 m.v.k, .int .i64 m.v.n, .string m.v.s] 26) = W4 at *
  generalize w2.heap.size = p at *
  obtain ⟨m0, m1, m2, m3, m4, m5⟩ := M4.cs
  cases hk : okM m with
  | false =>
    obtain ⟨e1, e2, e3⟩ := m_no hk
    rw [e1, e2, e3] at hW
    have HT := hide (HN.out (fun h => by rw [hk] at h; cases h.1))
    unfold Ms.val at hW
    clear e1 e2 e3 HY HN hk
    go_upto_region 3 with (go_at_call 9; refine (hW.out _).mono ?_; clear hW; rintro e w5 ⟨rfl, g5⟩; have A5 := A4.kept g5 (by simp); have M5 := M4.kept g5 (by simp); have P5 := P4.then (Kp.ofN g5 _))
    obtain ⟨m0, m1, m2, m3, m4, m5⟩ := M5.cs
    obtain ⟨y0, y1, y2, y3, y4, y5⟩ := A5.cs
    have f0 := A5.fz 0; have f1 := A5.fz 1; have f2 := A5.fz 2; have f3 := A5.fz 3; have f4 := A5.fz 4; have f5 := A5.fz 5
    have hh := A5.put zM
    have PE : Kp none' w (w5.setCells q 0 (Ms.cells zM)) := P5.trans (Kp.ofGrown (S := fun k => k = q) hh.2 (fun k e _ => (Option.some.inj e).symm)) (fun _ _ h => h) (fun k hl h => by rw [hqq] at hl; omega)
    have HH := hide hh.1
    have HPE := hide PE
    clear hh PE
    go_wp2_with fail
    refine bodyPost_ret (results_mb2 rfl _ q _ zM (.int .i64 10) rfl rfl HH.out) rfl ?_
    exact ⟨zM, 10, rfl, HT.out, HPE.out.grown⟩
  | true =>
    obtain ⟨e1, e2, e3⟩ := m_ok hk
    rw [e1, e2, e3] at hW
    unfold Ms.val at hW
    clear e1 e2 e3
    have HT1 : Hid (∀ b, decide (keyM m = k.data.toList) = b → ((mkB (keyM m)).toList == k.toList) = b) := by intro b hb; rw [toList_iff]; exact hb
    have HT2 : Hid (∀ b, decide (rstM m = r.data.toList) = b → ((mkB (rstM m)).toList == r.toList) = b) := by intro b hb; rw [toList_iff]; exact hb
    obtain ⟨SK, HSK⟩ : ∃ S, Hid (mkB (keyM m) = S) := ⟨_, rfl⟩
    obtain ⟨SR, HSR⟩ : ∃ S, Hid (mkB (rstM m) = S) := ⟨_, rfl⟩
    rw [HSK.out] at hW HT1
    rw [HSR.out] at hW HT2
    clear HSK HSR
    by_cases h1 : keyM m = k.data.toList
    · have t1 : (SK.toList == k.toList) = true := HT1.out true (decide_eq_true h1)
      by_cases h2 : rstM m = r.data.toList
      · have t2 : (SR.toList == r.toList) = true := HT2.out true (decide_eq_true h2)
        have HT := hide (HY.out hk h1 h2)
        clear HY HN hk h1 h2 HT1 HT2
        go_upto_region 3 with (go_at_call 9; refine (hW.out _).mono ?_; clear hW; rintro e w5 ⟨rfl, g5⟩; have A5 := A4.kept g5 (by simp); have M5 := M4.kept g5 (by simp); have P5 := P4.then (Kp.ofN g5 _))
        obtain ⟨m0, m1, m2, m3, m4, m5⟩ := M5.cs
        obtain ⟨y0, y1, y2, y3, y4, y5⟩ := A5.cs
        have f0 := A5.fz 0; have f1 := A5.fz 1; have f2 := A5.fz 2; have f3 := A5.fz 3; have f4 := A5.fz 4; have f5 := A5.fz 5
        have hh := A5.put m
        have PE : Kp none' w (w5.setCells q 0 (Ms.cells m)) := P5.trans (Kp.ofGrown (S := fun k => k = q) hh.2 (fun k e _ => (Option.some.inj e).symm)) (fun _ _ h => h) (fun k hl h => by rw [hqq] at hl; omega)
        have HH := hide hh.1
        have HPE := hide PE
        clear hh PE
        go_wp2_with fail
        refine bodyPost_ret (results_mb2 rfl _ q _ m (.int .i64 0) rfl rfl HH.out) rfl ?_
        exact ⟨m, 0, rfl, HT.out, HPE.out.grown⟩
      · have t2 : (SR.toList == r.toList) = false := HT2.out false (decide_eq_false h2)
        have HT := hide (HN.out (fun h => h2 h.2.2))
        clear HY HN hk h1 h2 HT1 HT2
        go_upto_region 3 with (go_at_call 9; refine (hW.out _).mono ?_; clear hW; rintro e w5 ⟨rfl, g5⟩; have A5 := A4.kept g5 (by simp); have M5 := M4.kept g5 (by simp); have P5 := P4.then (Kp.ofN g5 _))
        obtain ⟨m0, m1, m2, m3, m4, m5⟩ := M5.cs
        obtain ⟨y0, y1, y2, y3, y4, y5⟩ := A5.cs
        have f0 := A5.fz 0; have f1 := A5.fz 1; have f2 := A5.fz 2; have f3 := A5.fz 3; have f4 := A5.fz 4; have f5 := A5.fz 5
        have hh := A5.put zM
        have PE : Kp none' w (w5.setCells q 0 (Ms.cells zM)) := P5.trans (Kp.ofGrown (S := fun k => k = q) hh.2 (fun k e _ => (Option.some.inj e).symm)) (fun _ _ h => h) (fun k hl h => by rw [hqq] at hl; omega)
        have HH := hide hh.1
        have HPE := hide PE
        clear hh PE
        go_wp2_with fail
        refine bodyPost_ret (results_mb2 rfl _ q _ zM (.int .i64 10) rfl rfl HH.out) rfl ?_
        exact ⟨zM, 10, rfl, HT.out, HPE.out.grown⟩
    · have t1 : (SK.toList == k.toList) = false := HT1.out false (decide_eq_false h1)
      have HT := hide (HN.out (fun h => h1 h.2.1))
      clear HY HN hk h1 HT1 HT2
      go_upto_region 3 with (go_at_call 9; refine (hW.out _).mono ?_; clear hW; rintro e w5 ⟨rfl, g5⟩; have A5 := A4.kept g5 (by simp); have M5 := M4.kept g5 (by simp); have P5 := P4.then (Kp.ofN g5 _))
      obtain ⟨m0, m1, m2, m3, m4, m5⟩ := M5.cs
      obtain ⟨y0, y1, y2, y3, y4, y5⟩ := A5.cs
      have f0 := A5.fz 0; have f1 := A5.fz 1; have f2 := A5.fz 2; have f3 := A5.fz 3; have f4 := A5.fz 4; have f5 := A5.fz 5
      have hh := A5.put zM
      have PE : Kp none' w (w5.setCells q 0 (Ms.cells zM)) := P5.trans (Kp.ofGrown (S := fun k => k = q) hh.2 (fun k e _ => (Option.some.inj e).symm)) (fun _ _ h => h) (fun k hl h => by rw [hqq] at hl; omega)
      have HH := hide hh.1
      have HPE := hide PE
      clear hh PE
      go_wp2_with fail
      refine bodyPost_ret (results_mb2 rfl _ q _ zM (.int .i64 10) rfl rfl HH.out) rfl ?_
      exact ⟨zM, 10, rfl, HT.out, HPE.out.grown⟩

end Go.Proofs.Ytamgnpmkmlhadaa
