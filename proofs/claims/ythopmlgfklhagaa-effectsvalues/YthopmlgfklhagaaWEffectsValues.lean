/- The walk of the law EffectsValues. Conditions: those that the theorem states. -/
import Derived.Test.YthopmlgfklhagaaELv
import Derived.Test.YthopmlgfklhagaaERi
namespace Go.Proofs.Ythopmlgfklhagaa.effectsValues
open Go.RowKit
set_option linter.unusedVariables false

theorem val_back (y : V) (hy : y.wf) (hk : okC y = true) {z : V} {er : Int} (h : ToldW (vB y) z er) : z = y ∧ er = 0 := by
  rw [(vB_ok hk).1] at h
  exact toldW_one h (.inl ⟨rfl, hk, hy, rfl⟩)
theorem vB_size (y : V) : (vB y).size ≤ maxLen := by
  unfold vB
  split
  · next h => rw [mkB_size]; have := encC_len y h; unfold maxLen; omega
  · rw [mkB_size]; exact Nat.zero_le _
set_option maxRecDepth 100000 in
set_option maxHeartbeats 4000000 in
theorem walk (y : V) (s : ByteArray) (w : World) (hy : y.wf) (hs : s.size ≤ maxLen) :
    Calls Try.prog 3 #[y.val, .string s] w fun e w' => e = .returned (.bool true) ∧ w.grownBy w' none := by
  have hg0 := World.grownBy_alloc w (.cells #[.int .i64 y.k, .int .i64 y.n, .string y.s] 24) none
  have Y0 := Vb.new w y
  have hv := fun W => evalue_any y W hy
  have hrv := fun W => rvalue9_any y W hy
  have hu := fun W => eunvalue_any s W hs
  have hru := fun W => runvalue9_any s W hs
  have hua := fun W => eunvalue_any (vB y) W (vB_size y)
  have Hb := hide (fun (hk : okC y = true) (z : V) (er : Int) h => val_back y hy hk (z := z) (er := er) h)
  have HE : Hid ((okC y = true ∧ vE y = 0) ∨ (okC y = false ∧ vE y = 6)) := by
    cases hk : okC y with
    | true => exact .inl ⟨rfl, (vB_ok hk).2⟩
    | false => exact .inr ⟨rfl, vE_bad hk⟩
  generalize vB y = T at *
  generalize vE y = E at *
  have hTT : (T.toList == T.toList) = true := by simp
  have hss : (s.toList == s.toList) = true := by simp
  have y0 := Y0.c0; have y1 := Y0.c1; have y2 := Y0.c2
  unfold V.val at hv hrv ⊢
  go_enter Try.func3, Try.ntmps3
  go_wp2_with (go_at_call 8; refine (lives17_any _).mono ?_; rintro e w1 ⟨rfl, hg1⟩; have Y1 := Y0.kept hg1 (by simp); have y0 := Y1.c0; have y1 := Y1.c1; have y2 := Y1.c2)
  refine (hv _).mono ?_
  rintro e w2 ⟨rfl, hg2⟩
  have Y2 := Y1.kept hg2 (by simp)
  have G2 := grown_up (grown_up hg0 hg1) hg2
  clear y0 y1 y2 Y0 Y1 hg0 hg1 hg2
  have y0 := Y2.c0; have y1 := Y2.c1; have y2 := Y2.c2
  go_wp2_with fail
  refine (hrv _).mono ?_
  rintro e w3 ⟨rfl, hg3⟩
  have Y3 := Y2.kept hg3 (by simp)
  have G3 := grown_up G2 hg3
  clear y0 y1 y2 Y2 G2 hg3 hv hrv
  go_wp2_with fail
  refine (hu _).mono ?_
  rintro e w4 ⟨c, ec, rfl, hC, hg4⟩
  have hga := World.grownBy_alloc w4 (.cells #[.int .i64 c.k, .int .i64 c.n, .string c.s] 24) none
  have C4 := Vb.new w4 c
  have Y4 := (Y3.kept hg4 (by simp)).kept hga (by simp)
  have G4 := grown_up (grown_up G3 hg4) hga
  unfold V.val
  go_upto_region 6 with fail
  generalize w4.alloc (.cells #[.int .i64 c.k, .int .i64 c.n, .string c.s] 24) = W4 at *
  generalize w4.heap.size = mc at *
  clear Y3 G3 hg4 hga hu
  go_wp2_with fail
  refine (hru _).mono ?_
  rintro e w5 ⟨d, ed, rfl, hD, hg5⟩
  obtain ⟨rfl, rfl⟩ := toldW_one hC hD
  have hgb := World.grownBy_alloc w5 (.cells #[.int .i64 c.k, .int .i64 c.n, .string c.s] 24) none
  have D5 := Vb.new w5 c
  have Y5 := (Y4.kept hg5 (by simp)).kept hgb (by simp)
  have C5 := (C4.kept hg5 (by simp)).kept hgb (by simp)
  have G5 := grown_up (grown_up G4 hg5) hgb
  unfold V.val
  go_upto_region 7 with fail
  generalize w5.alloc (.cells #[.int .i64 c.k, .int .i64 c.n, .string c.s] 24) = W5 at *
  generalize w5.heap.size = md at *
  clear Y4 C4 G4 hg5 hgb hru hD
  go_wp2_with fail
  refine (hua _).mono ?_
  rintro e w6 ⟨z, ez, rfl, hZ, hg6⟩
  have hgc := World.grownBy_alloc w6 (.cells #[.int .i64 z.k, .int .i64 z.n, .string z.s] 24) none
  have Z6 := Vb.new w6 z
  have Y6 := (Y5.kept hg6 (by simp)).kept hgc (by simp)
  have C6 := (C5.kept hg6 (by simp)).kept hgc (by simp)
  have D6 := (D5.kept hg6 (by simp)).kept hgc (by simp)
  have G6 := grown_up (grown_up G5 hg6) hgc
  unfold V.val
  go_upto_region 8 with fail
  generalize w6.alloc (.cells #[.int .i64 z.k, .int .i64 z.n, .string z.s] 24) = W6 at *
  generalize w6.heap.size = mz at *
  clear Y5 C5 D5 G5 hg6 hgc hua
  have c0 := C6.c0; have c1 := C6.c1; have c2 := C6.c2
  have HCW : Hid (c.wf ∧ ((ec = 0 ∧ vE c = 0 ∧ vB c = s) ∨ ec = 10)) := by
    rcases hC with ⟨rfl, kc, wc, ee⟩ | ⟨rfl, rfl, _⟩
    · exact ⟨wc, .inl ⟨rfl, (vB_ok kc).2, by rw [(vB_ok kc).1, ee, mkB_self]⟩⟩
    · exact ⟨zV_wf, .inr rfl⟩
  have HZ : Hid (okC y = true → z = y ∧ ez = 0) := fun hk => Hb.out hk _ _ hZ
  have hvc := fun W => evalue_any c W HCW.out.1
  generalize vE c = Ec at *
  generalize vB c = Tc at *
  unfold V.val at hvc
  clear hC hZ Hb
  go_upto_region 9 with (go_at_call 9; refine (hvc _).mono ?_; rintro e w7 ⟨rfl, hg7⟩)
  have Y7 := Y6.kept hg7 (by simp)
  have C7 := C6.kept hg7 (by simp)
  have D7 := D6.kept hg7 (by simp)
  have Z7 := Z6.kept hg7 (by simp)
  have G7 := grown_up G6 hg7
  clear Y6 C6 D6 Z6 G6 hg7 c0 c1 c2 hvc
  have y0 := Y7.c0; have y1 := Y7.c1; have y2 := Y7.c2
  have c0 := C7.c0; have c1 := C7.c1; have c2 := C7.c2
  have d0 := D7.c0; have d1 := D7.c1; have d2 := D7.c2
  have z0 := Z7.c0; have z1 := Z7.c1; have z2 := Z7.c2
  have heqc := fun W => run_eqS c.k c.n c.s W
  have heqy := fun W => run_eqS y.k y.n y.s W
  have hEE : (E == E) = true := by simp
  have hcc : (ec == ec) = true := by simp
  rcases HE.out with ⟨hk, rfl⟩ | ⟨hk, rfl⟩
  · obtain ⟨rfl, rfl⟩ := HZ.out hk
    clear hk
    rcases HCW.out.2 with ⟨rfl, rfl, rfl⟩ | rfl
    · go_wp2
      go_ret
      exact ⟨by first | rfl | simp, G7⟩
    · go_wp2
      go_ret
      exact ⟨by first | rfl | simp, G7⟩
  · clear hk
    rcases HCW.out.2 with ⟨rfl, rfl, rfl⟩ | rfl
    · go_wp2
      go_ret
      exact ⟨by first | rfl | simp, G7⟩
    · go_wp2
      go_ret
      exact ⟨by first | rfl | simp, G7⟩

end Go.Proofs.Ythopmlgfklhagaa.effectsValues
