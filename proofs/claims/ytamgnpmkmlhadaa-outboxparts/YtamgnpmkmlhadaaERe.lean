/- Contracts, over the turned program: which value, which record bytes are, or that they are none's. Conditions: those that each theorem states. -/
import Derived.Test.YtamgnpmkmlhadaaERc
namespace Go.Proofs.Ytamgnpmkmlhadaa
open Go.RowKit
set_option linter.unusedVariables false

theorem vX_back (s : ByteArray) (y : V) (hw : y.wf) (hk : okC y = true) (h : encC y = s.data.toList) : vX (s, 0) = y := by
  have a := (v_app y [] hw hk).1.1
  rw [List.append_nil, h, mkB_self] at a
  exact a
theorem pR9_back (s : ByteArray) (y : Rc9) (hw : y.wf) (hk : okR y = true) (h : enc9 y = s.data.toList) : pR9 (s, 0) = y := by
  have a := (r_app y hw hk).1
  rw [h, mkB_self] at a
  exact a
theorem toList_iff (a b : ByteArray) : (a.toList == b.toList) = decide (a.data.toList = b.data.toList) := by
  rw [ByteArray.toList_eq, ByteArray.toList_eq]
  by_cases h : a.data.toList = b.data.toList
  · rw [h, decide_eq_true rfl]; simp
  · rw [decide_eq_false h, beq_eq_false_iff_ne]; exact h

set_option maxRecDepth 100000 in
set_option maxHeartbeats 2000000 in
theorem eunvalue_any (s : ByteArray) (w : World) (hs : s.size ≤ maxLen) :
    Calls Try.prog 48 #[.string s] w fun e w' => ∃ (x : V) (er : Int), e = .returned (.tuple #[x.val, .int .i64 er]) ∧ ToldW s x er ∧ w.grownBy w' none := by
  have hga := World.grownBy_alloc w (.cells #[.int .i64 0, .int .i64 0, .string ⟨#[]⟩] 24) none
  have hgb := World.grownBy_alloc (w.alloc (.cells #[.int .i64 0, .int .i64 0, .string ⟨#[]⟩] 24)) (.cells #[.string s, .int .i64 0] 83) none
  have R0 : Rq ((w.alloc (.cells #[.int .i64 0, .int .i64 0, .string ⟨#[]⟩] 24)).alloc (.cells #[.string s, .int .i64 0] 83)) (w.heap.size + 1) (s, 0) := ⟨by have := Rd.new (w.alloc (.cells #[.int .i64 0, .int .i64 0, .string ⟨#[]⟩] 24)) s 0; rw [World.size_alloc] at this; exact this, hs⟩
  have Q0 : Vb ((w.alloc (.cells #[.int .i64 0, .int .i64 0, .string ⟨#[]⟩] 24)).alloc (.cells #[.string s, .int .i64 0] 83)) w.heap.size ⟨0, 0, ⟨#[]⟩⟩ := (Vb.new w ⟨0, 0, ⟨#[]⟩⟩).kept hgb (by simp)
  have G0 := grown_up hga hgb
  have hback := hide (vX_back s)
  have hwf := hide (vX_wf (s, 0))
  have hrd := fun W H => erv_any (w.heap.size + 1) (s, 0) W H
  generalize vX (s, 0) = x0 at *
  have hwr := fun W => evalue_any x0 W hwf.out
  have HB : Hid (vB x0 = if okC x0 then mkB (encC x0) else mkB []) := rfl
  have HE : Hid (vE x0 = if okC x0 then 0 else 6) := rfl
  obtain ⟨X, HX⟩ : ∃ X, Hid (vB x0 = X) := ⟨_, rfl⟩
  obtain ⟨E, HEE⟩ : ∃ E, Hid (vE x0 = E) := ⟨_, rfl⟩
  rw [HX.out] at hwr HB
  rw [HEE.out] at hwr HE
  unfold V.val at hrd hwr ⊢
  clear hga hgb
  go_enter Try.func48, Try.ntmps48
  go_wp2_with (go_at_call 34; refine (from_any _ _).mono ?_; rintro e w1 ⟨rfl, rfl⟩)
  refine (hrd _ R0).mono ?_
  rintro e w2 ⟨rfl, R1, g1⟩
  have Q1 := Q0.kept g1 (by simp)
  have G1 : w.grownBy w2 none := grown_new G0 g1 (fun j e => by cases e; omega)
  have hgc := World.grownBy_alloc w2 (.cells #[.int .i64 x0.k, .int .i64 x0.n, .string x0.s] 24) none
  have Q2 := Q1.kept hgc (by simp)
  have M2 : Vb (w2.alloc (.cells #[.int .i64 x0.k, .int .i64 x0.n, .string x0.s] 24)) w2.heap.size x0 := Vb.new w2 x0
  have G2 := grown_up G1 hgc
  have hqm := Q1.lt
  clear R0 Q0 G0 hrd Q1 G1 g1 R1 hgc
  go_upto_region 2 with fail
  generalize w2.alloc (.cells #[.int .i64 x0.k, .int .i64 x0.n, .string x0.s] 24) = W at *
  generalize w2.heap.size = m at *
  obtain ⟨q, HQ⟩ : ∃ q, Hid (w.heap.size = q) := ⟨_, rfl⟩
  have hqq := HQ.out
  rw [hqq] at Q2 hqm
  have m0 := M2.c0; have m1 := M2.c1; have m2 := M2.c2
  go_upto_region 3 with (go_at_call 27; refine (hwr _).mono ?_; rintro e w3 ⟨rfl, g3⟩; have M := M2.kept g3 (by simp); have Q := Q2.kept g3 (by simp); have G := grown_up G2 g3; have m0 := M.c0; have m1 := M.c1; have m2 := M.c2; have y0 := Q.c0; have y1 := Q.c1; have y2 := Q.c2; have f0 := Q.fz 0; have f1 := Q.fz 1; have f2 := Q.fz 2; dsimp only at y0 y1 y2)
  clear hwr
  by_cases hk : okC x0 = true
  · have e := HE.out
    rw [if_pos hk] at e
    subst e
    have eX : Hid (X = mkB (encC x0)) := by have eX := HB.out; rw [if_pos hk] at eX; exact eX
    by_cases he : X.data.toList = s.data.toList
    · have c1 : (X.toList == s.toList) = true := by rw [toList_iff]; exact decide_eq_true he
      have hh := Vb.put39 Q x0
      go_wp2_with fail
      refine bodyPost_ret (results_vb rfl _ q _ x0 (.int .i64 0) rfl rfl hh.1) rfl ?_
      refine ⟨x0, 0, rfl, .inl ⟨rfl, hk, hwf.out, ?_⟩, grown_new G hh.2 (fun j e => by cases e; omega)⟩
      rw [← he, eX.out]
      rfl
    · have c1 : (X.toList == s.toList) = false := by rw [toList_iff]; exact decide_eq_false he
      have hh := Vb.put39 Q zV
      go_wp2_with fail
      refine bodyPost_ret (results_vb rfl _ q _ zV (.int .i64 10) rfl rfl hh.1) rfl ?_
      refine ⟨zV, 10, rfl, .inr ⟨rfl, rfl, fun y hy ky ey => ?_⟩, grown_new G hh.2 (fun j e => by cases e; omega)⟩
      have := hback.out y hy ky ey
      subst this
      rw [eX.out] at he
      exact he ey
  · have e := HE.out
    rw [if_neg hk] at e
    subst e
    have hh := Vb.put39 Q zV
    go_wp2_with fail
    refine bodyPost_ret (results_vb rfl _ q _ zV (.int .i64 10) rfl rfl hh.1) rfl ?_
    refine ⟨zV, 10, rfl, .inr ⟨rfl, rfl, fun y hy ky ey => ?_⟩, grown_new G hh.2 (fun j e => by cases e; omega)⟩
    have := hback.out y hy ky ey
    subst this
    exact hk ky

end Go.Proofs.Ytamgnpmkmlhadaa
