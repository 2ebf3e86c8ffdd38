/- The walk of the law EffectsBack. Conditions: those that the theorem states. -/
import Derived.Test.YthopmlgfklhagaaELv
namespace Go.Proofs.Ythopmlgfklhagaa.effectsBack
open Go.RowKit
set_option linter.unusedVariables false

theorem back_read (x : Rc9) (hx : x.wf) (hk : okR x = true) {y : Rc9} {er : Int} (h : ToldR (rB x) y er) : y = x ∧ er = 0 := by
  rw [(rB_ok hk).1] at h
  exact told_one h (.inl ⟨rfl, hk, hx, rfl⟩)
theorem back_len (x : Rc9) (hk : okR x = true) : ((rB x).size : Int) ≤ 40 := by
  rw [(rB_ok hk).1, mkB_size]
  have := enc9_len x hk
  omega
theorem back_size (x : Rc9) : (rB x).size ≤ maxLen := by
  unfold rB
  split
  · next h => rw [mkB_size]; have := enc9_len x h; unfold maxLen; omega
  · rw [mkB_size]; exact Nat.zero_le _
set_option maxRecDepth 100000 in
set_option maxHeartbeats 2000000 in
theorem walk (x : Rc9) (s : ByteArray) (w : World) (hx : x.wf) (hs : s.size ≤ maxLen) :
    Calls Try.prog 6 #[x.val, .string s] w fun e w' => e = .returned (.bool true) ∧ w.grownBy w' none := by
  have hg0 := World.grownBy_alloc w (.cells #[.int .i64 x.e, .int .i64 x.v.k, .int .i64 x.v.n, .string x.v.s, .int .i64 x.sl, .int .i64 x.p, .int .i64 x.o, .int .i64 x.k] 33) none
  have B0 := Rb.new 33 w x
  have has := fun W => as_any x W
  have hwr := fun W => ewrite_any x W hx
  have hrd := fun W => eread_any (rB x) W (back_size x)
  have hsm := fun W => same17_any x W
  have Hb := hide (fun (hk : okR x = true) (y : Rc9) (er : Int) h => back_read x hx hk (y := y) (er := er) h)
  have Hl := hide (back_len x)
  have HE : Hid ((okR x = true ∧ rE9 x = 0) ∨ (okR x = false ∧ rE9 x = 4)) := by
    cases hk : okR x with
    | true => exact .inl ⟨rfl, (rB_ok hk).2⟩
    | false => exact .inr ⟨rfl, rE_bad hk⟩
  generalize rB x = T at *
  generalize rE9 x = E at *
  unfold Rc9.val at has hwr hsm ⊢
  obtain ⟨d0, d1, d2, d3, d4, d5, d6, d7⟩ := B0.cs
  go_enter Try.func6, Try.ntmps6
  go_wp2_with (go_at_call 8; refine (lives17_any _).mono ?_; rintro e w1 ⟨rfl, hg1⟩; have B1 := B0.kept hg1 (by simp); obtain ⟨d0, d1, d2, d3, d4, d5, d6, d7⟩ := B1.cs)
  refine (has _).mono ?_
  rintro e w2 ⟨rfl, hg2⟩
  have B2 := B1.kept hg2 (by simp)
  have G2 := grown_up (grown_up hg0 hg1) hg2
  go_wp2_with fail
  refine (hwr _).mono ?_
  rintro e w3 ⟨rfl, hg3⟩
  have B3 := B2.kept hg3 (by simp)
  have G3 := grown_up G2 hg3
  clear d0 d1 d2 d3 d4 d5 d6 d7 B0 B1 B2 hg0 hg1 hg2 hg3 G2
  go_wp2_with fail
  refine (hrd _).mono ?_
  rintro e w4 ⟨y, er, rfl, hT, hg4⟩
  have hga := World.grownBy_alloc w4 (.cells #[.int .i64 y.e, .int .i64 y.v.k, .int .i64 y.v.n, .string y.v.s, .int .i64 y.sl, .int .i64 y.p, .int .i64 y.o, .int .i64 y.k] 42) none
  have Y4 := Rb.new 42 w4 y
  have B4 := (B3.kept hg4 (by simp)).kept hga (by simp)
  have G4 := grown_up (grown_up G3 hg4) hga
  unfold Rc9.val
  go_upto_region 5 with fail
  generalize w4.alloc (.cells #[.int .i64 y.e, .int .i64 y.v.k, .int .i64 y.v.n, .string y.v.s, .int .i64 y.sl, .int .i64 y.p, .int .i64 y.o, .int .i64 y.k] 42) = W4 at *
  generalize w4.heap.size = m at *
  clear B3 G3 hg4 hga
  have hfin : ∀ W5 : World, w.grownBy W5 none → Calls Try.prog 19 #[.string s] W5 fun e w' => ∃ (x : Rc9) (er : Int), e = .returned (.tuple #[x.val, .int .i64 er]) ∧ ToldR s x er ∧ w.grownBy w' none := by
    intro W5 h
    refine (eread_any s W5 hs).mono ?_
    rintro e w' ⟨z, er, rfl, h1, h2⟩
    exact ⟨z, er, rfl, h1, grown_up h h2⟩
  have HFin := hide hfin
  clear hfin
  rcases HE.out with ⟨hk, rfl⟩ | ⟨hk, rfl⟩
  · obtain ⟨rfl, rfl⟩ := Hb.out hk _ _ hT
    have hl := Hl.out hk
    obtain ⟨b0, b1, b2, b3, b4, b5, b6, b7⟩ := B4.cs
    obtain ⟨c0, c1, c2, c3, c4, c5, c6, c7⟩ := Y4.cs
    clear hT hk hrd has hwr
    go_wp2_with (go_at_call 16; refine (hsm _).mono ?_; rintro e w5 ⟨rfl, hg5⟩)
    have G5 := grown_up G4 hg5
    go_wp2_with fail
    refine (HFin.out _ G5).mono ?_
    rintro e w6 ⟨z, ez, rfl, hZ, G6⟩
    have hgz := World.grownBy_alloc w6 (.cells #[.int .i64 z.e, .int .i64 z.v.k, .int .i64 z.v.n, .string z.v.s, .int .i64 z.sl, .int .i64 z.p, .int .i64 z.o, .int .i64 z.k] 42) none
    have Z6 := Rb.new 42 w6 z
    have G7 := grown_up G6 hgz
    unfold Rc9.val
    go_upto_region 8 with fail
    generalize w6.alloc (.cells #[.int .i64 z.e, .int .i64 z.v.k, .int .i64 z.v.n, .string z.v.s, .int .i64 z.sl, .int .i64 z.p, .int .i64 z.o, .int .i64 z.k] 42) = W6 at *
    generalize w6.heap.size = mz at *
    obtain ⟨z0, z1, z2, z3, z4, z5, z6, z7⟩ := Z6.cs
    rcases hZ with ⟨rfl, kz, wz, ez⟩ | ⟨rfl, rfl, _⟩
    · have hwz := fun W => ewrite_any z W wz
      rw [(rB_ok kz).1, (rB_ok kz).2, ez, mkB_self] at hwz
      have hss : (s.toList == s.toList) = true := by simp
      unfold Rc9.val at hwz
      clear kz wz ez
      go_wp2_with (go_at_call 13; refine (hwz _).mono ?_; rintro e w7 ⟨rfl, hg7⟩)
      go_ret
      exact ⟨by first | rfl | simp, grown_up G7 hg7⟩
    · have hwz := fun W => ewrite_any zR W ⟨ir_zero, zV_wf, ir_zero, ir_zero, ir_zero, ir_zero⟩
      unfold Rc9.val at hwz
      go_wp2_with (go_at_call 13; refine (hwz _).mono ?_; rintro e w7 ⟨rfl, hg7⟩)
      go_ret
      exact ⟨by first | rfl | simp, grown_up G7 hg7⟩
  · clear hT hk hrd has hwr
    have G5 := G4
    go_wp2_with fail
    refine (HFin.out _ G5).mono ?_
    rintro e w6 ⟨z, ez, rfl, hZ, G6⟩
    have hgz := World.grownBy_alloc w6 (.cells #[.int .i64 z.e, .int .i64 z.v.k, .int .i64 z.v.n, .string z.v.s, .int .i64 z.sl, .int .i64 z.p, .int .i64 z.o, .int .i64 z.k] 42) none
    have Z6 := Rb.new 42 w6 z
    have G7 := grown_up G6 hgz
    unfold Rc9.val
    go_upto_region 8 with fail
    generalize w6.alloc (.cells #[.int .i64 z.e, .int .i64 z.v.k, .int .i64 z.v.n, .string z.v.s, .int .i64 z.sl, .int .i64 z.p, .int .i64 z.o, .int .i64 z.k] 42) = W6 at *
    generalize w6.heap.size = mz at *
    obtain ⟨z0, z1, z2, z3, z4, z5, z6, z7⟩ := Z6.cs
    rcases hZ with ⟨rfl, kz, wz, ez⟩ | ⟨rfl, rfl, _⟩
    · have hwz := fun W => ewrite_any z W wz
      rw [(rB_ok kz).1, (rB_ok kz).2, ez, mkB_self] at hwz
      have hss : (s.toList == s.toList) = true := by simp
      unfold Rc9.val at hwz
      clear kz wz ez
      go_wp2_with (go_at_call 13; refine (hwz _).mono ?_; rintro e w7 ⟨rfl, hg7⟩)
      go_ret
      exact ⟨by first | rfl | simp, grown_up G7 hg7⟩
    · have hwz := fun W => ewrite_any zR W ⟨ir_zero, zV_wf, ir_zero, ir_zero, ir_zero, ir_zero⟩
      unfold Rc9.val at hwz
      go_wp2_with (go_at_call 13; refine (hwz _).mono ?_; rintro e w7 ⟨rfl, hg7⟩)
      go_ret
      exact ⟨by first | rfl | simp, grown_up G7 hg7⟩

end Go.Proofs.Ythopmlgfklhagaa.effectsBack
