/- The walk of the law OutboxBytes. Conditions: those that the theorem states. -/
import Derived.Test.YtamgnpmkmlhadaaOLv
import Derived.Test.YtamgnpmkmlhadaaOSame
import Derived.Test.YtamgnpmkmlhadaaORefR
import Derived.Test.YtamgnpmkmlhadaaOStep
namespace Go.Proofs.Ytamgnpmkmlhadaa.outboxBytes
open Go.RowKit
set_option linter.unusedVariables false

theorem sizes (m : Ms) : (mK m).size ≤ maxLen ∧ (mR m).size ≤ maxLen := by
  cases h : okM m with
  | false =>
    obtain ⟨e1, e2, _⟩ := m_no h
    rw [e1, e2]
    exact ⟨by decide, by decide⟩
  | true =>
    obtain ⟨e1, e2, _⟩ := m_ok h
    have hl := encC_len m.v (okM_parts h).1
    rw [e1, e2, mkB_size, mkB_size]
    unfold keyM rstM maxLen
    rw [List.length_append, List.length_append, be_len, be_len, be_len]
    omega
/-- What the law has behind its calls. -/
structure Told9 (m : Ms) (k r : ByteArray) (x z : Ms) (er i : Int) : Prop where
  a : okM m = true → mE m = 0 ∧ i = 0 ∧ z = m
  b : okM m = false → mE m = 4
  c : (er = 0 ∧ mE x = 0 ∧ mK x = k ∧ mR x = r) ∨ er = 10
theorem told9 {m : Ms} (hm : m.wf) {k r : ByteArray} {x z : Ms} {er i : Int} (h1 : ToldM k r x er) (h2 : ToldM (mK m) (mR m) z i) : Told9 m k r x z er i := by
  refine ⟨fun h => ?_, fun h => (m_no h).2.2, ?_⟩
  · obtain ⟨e1, e2⟩ := toldM_one h2 (toldM_yes m h hm)
    exact ⟨(m_ok h).2.2, e2, e1⟩
  · rcases h1 with ⟨rfl, hk, _, a, b⟩ | ⟨rfl, _⟩
    · obtain ⟨e1, e2, e3⟩ := m_ok hk
      exact .inl ⟨rfl, e3, by rw [e1, a, mkB_self], by rw [e2, b, mkB_self]⟩
    · exact .inr rfl
theorem told_wf {k r : ByteArray} {x : Ms} {er : Int} (h : ToldM k r x er) : x.wf := by
  rcases h with ⟨_, _, h, _⟩ | ⟨_, rfl, _⟩
  · exact h
  · exact zM_wf
set_option maxRecDepth 100000 in
set_option maxHeartbeats 4000000 in
theorem walk (m : Ms) (k r : ByteArray) (w : World) (hm : m.wf) (hk : k.size ≤ maxLen) (hr : r.size ≤ maxLen) :
    Calls Try.prog 3 #[m.val, .string k, .string r] w fun e w' => e = .returned (.bool true) ∧ w.grownBy w' none := by
  have HL := fun W => hide (olives_any W)
  have HW := fun W => hide (owrite_any m W hm)
  have HR := fun W => hide (rwrite19_any m W hm)
  have hp := fun W => hide (oread_any k r W hk hr)
  have hq := fun W => hide (rread19_any k r W hk hr)
  have hz := fun W => hide (oread_any (mK m) (mR m) W (sizes m).1 (sizes m).2)
  have T9 := fun x z er i => hide (@told9 m hm k r x z er i)
  obtain ⟨A, HA⟩ : ∃ A, Hid (mK m = A) := ⟨_, rfl⟩
  obtain ⟨B, HB⟩ : ∃ B, Hid (mR m = B) := ⟨_, rfl⟩
  obtain ⟨E, HE⟩ : ∃ E, Hid (mE m = E) := ⟨_, rfl⟩
  rw [HA.out, HB.out, HE.out] at HW HR
  rw [HA.out, HB.out] at hz T9
  have b0 := Mb.new w m
  have k0 := Kp.alloc none' w (.cells #[.int .i64 m.q, .int .i64 m.f, .int .i64 m.t, .int .i64 m.v.k, .int .i64 m.v.n, .string m.v.s] 26)
  obtain ⟨W0, e0⟩ : ∃ W0, w.alloc (.cells #[.int .i64 m.q, .int .i64 m.f, .int .i64 m.t, .int .i64 m.v.k, .int .i64 m.v.n, .string m.v.s] 26) = W0 := ⟨_, rfl⟩
  rw [e0] at b0 k0
  unfold Ms.val at HW HR ⊢
  go_enter Try.func3, Try.ntmps3
  go_upto_region 1 with fail
  clear e0
  obtain ⟨p, Hp⟩ : ∃ p, Hid (w.heap.size = p) := ⟨_, rfl⟩
  rw [Hp.out] at b0 ⊢
  go_upto_region 3 with (go_at_call 8; refine (HL _).out.mono ?_; clear HL; rintro e w1 ⟨rfl, k1⟩)
  have b1 := b0.kp k1 (fun h => h)
  obtain ⟨c0, c1, c2, c3, c4, c5⟩ := b1.cs
  go_upto_region 4 with (go_at_call 9; refine (HW _).out.mono ?_; clear HW; rintro e w2 ⟨rfl, g2⟩)
  have b2 := b1.kept g2 (by simp)
  clear c0 c1 c2 c3 c4 c5
  obtain ⟨c0, c1, c2, c3, c4, c5⟩ := b2.cs
  go_upto_region 5 with (go_at_call 10; refine (HR _).out.mono ?_; clear HR; rintro e w3 ⟨rfl, g3⟩)
  have b3 := b2.kept g3 (by simp)
  have k3 := (k0.then k1).then ((Kp.ofN g2 none').then (Kp.ofN g3 none'))
  clear c0 c1 c2 c3 c4 c5 b0 b1 b2 g2 g3 k0 k1
  obtain ⟨W5, e5⟩ : ∃ W5 : Ms → World → World, Hid (∀ x W, W5 x W = W.alloc (.cells #[.int .i64 x.q, .int .i64 x.f, .int .i64 x.t, .int .i64 x.v.k, .int .i64 x.v.n, .string x.v.s] 26)) := ⟨fun x W => W.alloc (.cells #[.int .i64 x.q, .int .i64 x.f, .int .i64 x.t, .int .i64 x.v.k, .int .i64 x.v.n, .string x.v.s] 26), hide (fun _ _ => rfl)⟩
  go_upto_region 6 with (go_at_call 11; refine (hp _).out.mono ?_; clear hp; rintro e w4 ⟨x, er, rfl, hT, g4⟩; have b4 := b3.kept g4 (by simp); have x4 := Mb.new w4 x; have q4 := (e5.out x w4).symm; rw [q4] at x4; have k4 := (Kp.alloc none' w4 (.cells #[.int .i64 x.q, .int .i64 x.f, .int .i64 x.t, .int .i64 x.v.k, .int .i64 x.v.n, .string x.v.s] 26)); rw [q4] at k4; unfold Ms.val)
  obtain ⟨v5, h5⟩ : ∃ v5, W5 x w4 = v5 := ⟨_, rfl⟩
  rw [h5] at x4 k4 ⊢
  clear q4 h5
  have b5 := b4.kp k4 (fun h => h)
  have hx := told_wf hT
  obtain ⟨p4, Hp4⟩ : ∃ p, Hid (w4.heap.size = p) := ⟨_, rfl⟩
  rw [Hp4.out] at x4 ⊢
  have k5 := k3.then ((Kp.ofN g4 none').then k4)
  clear k3 g4 k4 b3 b4
  have hq2 : ∀ W, Hid (Calls Try.prog 12 #[.string k, .string r] W fun e w' => e = .returned (.tuple #[x.val, .int .i64 er]) ∧ W.grownBy w' none) := fun W => hide ((hq W).out.mono fun e w' ⟨x', er', he, hT', g⟩ => by
    obtain ⟨ex, ee⟩ := toldM_one hT' hT
    rw [ex, ee] at he
    exact ⟨he, g⟩)
  clear hq
  unfold Ms.val at hq2
  go_upto_region 7 with (go_at_call 12; go_loud (refine (hq2 _).out.mono ?_; clear hq2; rintro e w6 ⟨rfl, g6⟩; have b6 := b5.kept g6 (by simp); have x6 := x4.kept g6 (by simp); have y6 := Mb.new w6 x; have q6 := (e5.out x w6).symm; rw [q6] at y6; have k6 := (Kp.alloc none' w6 (.cells #[.int .i64 x.q, .int .i64 x.f, .int .i64 x.t, .int .i64 x.v.k, .int .i64 x.v.n, .string x.v.s] 26)); rw [q6] at k6))
  obtain ⟨v7, h7⟩ : ∃ v, W5 x w6 = v := ⟨_, rfl⟩
  rw [h7] at y6 k6 ⊢
  clear q6 h7
  have b7 := b6.kp k6 (fun h => h)
  have x7 := x6.kp k6 (fun h => h)
  obtain ⟨p6, Hp6⟩ : ∃ p, Hid (w6.heap.size = p) := ⟨_, rfl⟩
  rw [Hp6.out] at y6 ⊢
  have k7 := k5.then ((Kp.ofN g6 none').then k6)
  clear k5 g6 k6 b5 b6 x4 x6
  go_upto_region 8 with (go_at_call 11; refine (hz _).out.mono ?_; clear hz; rintro e w8 ⟨z, i, rfl, hTz, g8⟩; have b8 := b7.kept g8 (by simp); have x8 := x7.kept g8 (by simp); have y8 := y6.kept g8 (by simp); have z8 := Mb.new w8 z; have q8 := (e5.out z w8).symm; rw [q8] at z8; have k8 := (Kp.alloc none' w8 (.cells #[.int .i64 z.q, .int .i64 z.f, .int .i64 z.t, .int .i64 z.v.k, .int .i64 z.v.n, .string z.v.s] 26)); rw [q8] at k8; unfold Ms.val)
  obtain ⟨v9, h9⟩ : ∃ v, W5 z w8 = v := ⟨_, rfl⟩
  rw [h9] at z8 k8 ⊢
  clear q8 h9
  have b9 := b8.kp k8 (fun h => h)
  have x9 := x8.kp k8 (fun h => h)
  have y9 := y8.kp k8 (fun h => h)
  obtain ⟨p8, Hp8⟩ : ∃ p, Hid (w8.heap.size = p) := ⟨_, rfl⟩
  rw [Hp8.out] at z8 ⊢
  have k9 := k7.then ((Kp.ofN g8 none').then k8)
  clear k7 g8 k8 b7 b8 x7 x8 y6 y8
  have TT := (T9 x z er i).out hT hTz
  have HX := fun W => hide (owrite_any x W hx)
  obtain ⟨C, HC⟩ : ∃ A, Hid (mK x = A) := ⟨_, rfl⟩
  obtain ⟨D, HD⟩ : ∃ B, Hid (mR x = B) := ⟨_, rfl⟩
  obtain ⟨F, HF⟩ : ∃ E, Hid (mE x = E) := ⟨_, rfl⟩
  rw [HC.out, HD.out, HF.out] at HX
  unfold Ms.val at HX
  obtain ⟨c0, c1, c2, c3, c4, c5⟩ := x9.cs
  go_upto_region 9 with (go_at_call 9; refine (HX _).out.mono ?_; clear HX; rintro e wa ⟨rfl, ga⟩)
  clear c0 c1 c2 c3 c4 c5 T9
  obtain ⟨a0, a1, a2, a3, a4, a5⟩ := (b9.kept ga (by simp)).cs
  obtain ⟨c0, c1, c2, c3, c4, c5⟩ := (x9.kept ga (by simp)).cs
  obtain ⟨d0, d1, d2, d3, d4, d5⟩ := (y9.kept ga (by simp)).cs
  obtain ⟨f0, f1, f2, f3, f4, f5⟩ := (z8.kept ga (by simp)).cs
  have KK := hide (k9.then (Kp.ofN ga none'))
  clear b9 x9 y9 z8 k9 ga hT hTz hx
  have s1 : (A.toList == A.toList) = true := by simp
  have s2 : (B.toList == B.toList) = true := by simp
  have s3 : (k.toList == k.toList) = true := by simp
  have s4 : (r.toList == r.toList) = true := by simp
  have s5 : (E == E) = true := by simp
  have s6 : (er == er) = true := by simp
  have hq1 := run_eqM x.q x.f x.t x.v.k x.v.n x.v.s
  obtain ⟨t1, t2, t3⟩ := TT
  cases hok : okM m with
  | true =>
    obtain ⟨u1, u2, u3⟩ := t1 hok
    rw [HE.out] at u1
    have hq2 := run_eqM m.q m.f m.t m.v.k m.v.n m.v.s
    rw [← u3] at hq2 a0 a1 a2 a3 a4 a5
    subst u1 u2
    clear t1 t2 HE HA HB u3 hok hm
    rcases t3 with ⟨e1, e2, e3, e4⟩ | e1
    · rw [HF.out] at e2
      rw [HC.out] at e3
      rw [HD.out] at e4
      subst e1 e2 e3 e4
      clear HC HD HF
      go_wp2
      go_ret
      exact ⟨rfl, KK.out.grown⟩
    · subst e1
      clear HC HD HF
      go_wp2
      go_ret
      exact ⟨rfl, KK.out.grown⟩
  | false =>
    have u1 := t2 hok
    rw [HE.out] at u1
    subst u1
    clear t1 t2 HE HA HB hok hm
    rcases t3 with ⟨e1, e2, e3, e4⟩ | e1
    · rw [HF.out] at e2
      rw [HC.out] at e3
      rw [HD.out] at e4
      subst e1 e2 e3 e4
      clear HC HD HF
      go_wp2
      go_ret
      exact ⟨rfl, KK.out.grown⟩
    · subst e1
      clear HC HD HF
      go_wp2
      go_ret
      exact ⟨rfl, KK.out.grown⟩

end Go.Proofs.Ytamgnpmkmlhadaa.outboxBytes
