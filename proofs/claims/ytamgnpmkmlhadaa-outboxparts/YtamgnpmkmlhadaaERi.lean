/- Contracts, over the turned program: the value of bytes, whether a record may be, a record's bytes, as the document says. Conditions: those that each theorem states. -/
import Derived.Test.YtamgnpmkmlhadaaERh
import Derived.Deep.RegionHeldLaw
namespace Go.Proofs.Ytamgnpmkmlhadaa
open Go.RowKit
set_option linter.unusedVariables false

theorem rvX_wf (t : Sr) : (rvX t).wf := by
  have h2 := sX_size (nN t 1)
  have h3 : ∀ n : Int, -9223372036854775808 ≤ wrap64 n ∧ wrap64 n < 9223372036854775808 := by intro n; unfold wrap64; omega
  unfold rvX
  split
  · exact ⟨(h3 _).1, (h3 _).2, by show (mkB []).size ≤ _; simp [mkB_size]⟩
  · exact ⟨by show _ ≤ (0 : Int); decide, by show (0 : Int) < _; decide, by show (sX _).size ≤ _; unfold maxLen; omega⟩
theorem doneE_0 (s : ByteArray) (e : Int) : doneE s e = 0 ↔ e = 0 ∧ s.size = 0 := by
  unfold doneE
  by_cases h : e = 0 ∧ s.size ≠ 0
  · rw [if_pos h]; omega
  · rw [if_neg h]; omega
theorem size_nil (s : ByteArray) (h : s.size = 0) : s.data.toList = [] := List.length_eq_zero_iff.1 (by rw [Array.length_toList]; exact h)
/-- Where it is read to the end, the bytes are the value's. -/
theorem rv_told (s : ByteArray) (h : (rvN (s, 0)).2 = 0) (hk : okC (rvX (s, 0)) = true) (hz : (rvN (s, 0)).1.size = 0) : ToldW s (rvX (s, 0)) 0 := by
  refine .inl ⟨rfl, hk, rvX_wf _, ?_⟩
  have := (v_of (s, 0) h hk).2
  rw [size_nil _ hz, List.append_nil] at this
  exact this.symm
theorem rv_not (s : ByteArray) (h : ¬ ((rvN (s, 0)).2 = 0 ∧ okC (rvX (s, 0)) = true ∧ (rvN (s, 0)).1.size = 0)) : ToldW s zV 10 := by
  refine .inr ⟨rfl, rfl, fun y hy ky ey => h ?_⟩
  obtain ⟨_, h1, h2⟩ := v_app y [] hy ky
  rw [List.append_nil, ey, mkB_self] at h1 h2
  rw [h1, h2]
  exact ⟨rfl, ky, rfl⟩

set_option maxRecDepth 100000 in
set_option maxHeartbeats 2000000 in
theorem runvalue9_any (s : ByteArray) (w : World) (hs : s.size ≤ maxLen) :
    Calls Try.prog 37 #[.string s] w fun e w' => ∃ (x : V) (er : Int), e = .returned (.tuple #[x.val, .int .i64 er]) ∧ ToldW s x er ∧ w.grownBy w' none := by
  have hga := World.grownBy_alloc w (.cells #[.int .i64 0, .int .i64 0, .string ⟨#[]⟩] 24) none
  have hgb := World.grownBy_alloc (w.alloc (.cells #[.int .i64 0, .int .i64 0, .string ⟨#[]⟩] 24)) (.cells #[.string s, .int .i64 0, .int .i64 0] 67) none
  have R0 : Rz ((w.alloc (.cells #[.int .i64 0, .int .i64 0, .string ⟨#[]⟩] 24)).alloc (.cells #[.string s, .int .i64 0, .int .i64 0] 67)) (w.heap.size + 1) s (s, 0) := by have := Rz.new (w.alloc (.cells #[.int .i64 0, .int .i64 0, .string ⟨#[]⟩] 24)) s hs; rw [World.size_alloc] at this; exact this
  have Q0 : Vb ((w.alloc (.cells #[.int .i64 0, .int .i64 0, .string ⟨#[]⟩] 24)).alloc (.cells #[.string s, .int .i64 0, .int .i64 0] 67)) w.heap.size ⟨0, 0, ⟨#[]⟩⟩ := (Vb.new w ⟨0, 0, ⟨#[]⟩⟩).kept hgb (by simp)
  have G0 := grown_up hga hgb
  have Hyes := hide (rv_told s)
  have Hno := hide (rv_not s)
  have hrd := rnext_any (w.heap.size + 1) s (s, 0) _ R0
  generalize rvX (s, 0) = x0 at *
  generalize rvN (s, 0) = t1 at *
  have Hd := hide (doneE_0 t1.1 t1.2)
  unfold V.val at hrd ⊢
  clear hga hgb
  go_enter Try.func37, Try.ntmps37
  go_wp2_with fail
  refine hrd.mono ?_
  rintro e w2 ⟨rfl, R1, g1⟩
  have Q1 := Q0.kept g1 (by simp)
  have G1 : w.grownBy w2 none := grown_new G0 g1 (fun j e => by cases e; omega)
  have hgc := World.grownBy_alloc w2 (.cells #[.int .i64 x0.k, .int .i64 x0.n, .string x0.s] 24) none
  have Q2 := Q1.kept hgc (by simp)
  have M2 : Vb (w2.alloc (.cells #[.int .i64 x0.k, .int .i64 x0.n, .string x0.s] 24)) w2.heap.size x0 := Vb.new w2 x0
  have R2 := R1.kept hgc (by simp)
  have G2 := grown_up G1 hgc
  have hqm := Q1.lt
  clear R0 Q0 G0 hrd Q1 G1 g1 R1 hgc
  go_upto_region 3 with fail
  generalize w2.alloc (.cells #[.int .i64 x0.k, .int .i64 x0.n, .string x0.s] 24) = W at *
  generalize w2.heap.size = m at *
  obtain ⟨q, HQ⟩ : ∃ q, Hid (w.heap.size = q) := ⟨_, rfl⟩
  have hqq := HQ.out
  rw [hqq] at Q2 hqm R2
  have hdn := rzdone_any _ s t1 W R2
  by_cases hk : (t1.2 == 0 && okC x0) = true
  · have hk' := hk
    rw [Bool.and_eq_true, beq_iff_eq] at hk'
    by_cases hd : doneE t1.1 t1.2 = 0
    · have HT := hide (Hyes.out hk'.1 hk'.2 (Hd.out.1 hd).2)
      rw [hd] at hdn
      rw [hk]
      clear hd hk hk'
      go_wp2_with (go_at_call 36; refine hdn.mono ?_; rintro e w3 ⟨rfl, g3⟩; have M := M2.kept g3 (by simp); have Q := Q2.kept g3 (by simp); have G := grown_up G2 g3; have m0 := M.c0; have m1 := M.c1; have m2 := M.c2; have y0 := Q.c0; have y1 := Q.c1; have y2 := Q.c2; have f0 := Q.fz 0; have f1 := Q.fz 1; have f2 := Q.fz 2; dsimp only at y0 y1 y2)
      have hh := Vb.put39 Q x0
      go_wp2_with fail
      refine bodyPost_ret (results_vb rfl _ q _ x0 (.int .i64 0) rfl rfl hh.1) rfl ?_
      exact ⟨x0, 0, rfl, HT.out, grown_new G hh.2 (fun j e => by cases e; omega)⟩
    · have HT := hide (Hno.out (fun h => hd (Hd.out.2 ⟨h.1, h.2.2⟩)))
      generalize doneE t1.1 t1.2 = d at *
      have hd' : (d != 0) = true := by simp [hd]
      rw [hk]
      clear hd hk hk'
      go_wp2_with (go_at_call 36; refine hdn.mono ?_; rintro e w3 ⟨rfl, g3⟩; have Q := Q2.kept g3 (by simp); have G := grown_up G2 g3; have y0 := Q.c0; have y1 := Q.c1; have y2 := Q.c2; have f0 := Q.fz 0; have f1 := Q.fz 1; have f2 := Q.fz 2; dsimp only at y0 y1 y2)
      have hh := Vb.put39 Q zV
      go_wp2_with fail
      refine bodyPost_ret (results_vb rfl _ q _ zV (.int .i64 10) rfl rfl hh.1) rfl ?_
      exact ⟨zV, 10, rfl, HT.out, grown_new G hh.2 (fun j e => by cases e; omega)⟩
  · have HT := hide (Hno.out (fun h => hk (by rw [h.1, h.2.1]; rfl)))
    have hk' : (t1.2 == 0 && okC x0) = false := by simpa using hk
    rw [hk']
    clear hk hk'
    rw [← hqq] at Q2 hqm
    clear hqq
    have y0 := Q2.c0; have y1 := Q2.c1; have y2 := Q2.c2; have f0 := Q2.fz 0; have f1 := Q2.fz 1; have f2 := Q2.fz 2
    dsimp only at y0 y1 y2
    have hh := Vb.put39 Q2 zV
    go_wp2_with fail
    refine bodyPost_ret (results_vb rfl _ w.heap.size _ zV (.int .i64 10) rfl rfl hh.1) rfl ?_
    exact ⟨zV, 10, rfl, HT.out, grown_new G2 hh.2 (fun j e => by cases e; omega)⟩

theorem wid4 : wid 4 = 4 := by decide
theorem run_eqZ (a b : Int) (s : ByteArray) (w : World) : (binOp .eql 24 (.agg #[.int .i64 a, .int .i64 b, .string s]) (.agg #[.int .i64 0, .int .i64 0, .string ⟨#[]⟩])).run Try.prog w = .ok (.bool (zeroB ⟨a, b, s⟩)) w := by
  unfold zeroB
  dsimp only
  cases h1 : (a == 0) with
  | false => go_simp
  | true =>
    cases h2 : (b == 0) with
    | false => go_simp
    | true =>
      cases h3 : s.toList.isEmpty with
      | true =>
        have h3' : (s.toList == []) = true := by simpa using h3
        go_simp
      | false =>
        have h3' : (s.toList == []) = false := by rw [beq_eq_false_iff_ne]; intro h; rw [h] at h3; cases h3
        go_simp

end Go.Proofs.Ytamgnpmkmlhadaa
