/- Contract, over the turned program: the reader's value answers the value that bytes begin with, or keeps the error. Conditions: those that each theorem states. -/
import Derived.Test.YtohcpgoiclapjaaDoorIRd
namespace Go.Proofs.YtohcpgoiclapjaaDoor
open Go.RowKit
set_option linter.unusedVariables false

theorem pC_short (r : List UInt8) (h : r.length < 8) : pC (1 :: r) = .error 2 := by rw [pC_cons, if_pos rfl, if_pos h]
theorem pC_int (r : List UInt8) (h : ¬ r.length < 8) : pC (1 :: r) = .ok (⟨1, wrap64 (val (r.take 8) : Int), mkB []⟩, r.drop 8) := by rw [pC_cons, if_pos rfl, if_neg h]
theorem pC_bad (c : UInt8) (r : List UInt8) (h1 : c ≠ 1) (h2 : c ≠ 2) : pC (c :: r) = .error 4 := by rw [pC_cons, if_neg h1, if_neg h2]
/-- What Str answers of bytes. -/
theorem str_pS (r : List UInt8) : match pS r with
    | .ok (x, q) => x = ⟨2, 0, strR (mkB r) 0 10⟩ ∧ strS (mkB r) 0 10 = mkB q ∧ strE (mkB r) 0 10 = 0
    | .error e => strE (mkB r) 0 10 = e ∧ e ≠ 0 := by
  cases r with
  | nil => exact ⟨by decide, by decide⟩
  | cons m q =>
    have hz : (mkB (m :: q)).size = q.length + 1 := by rw [mkB_size]; rfl
    have hn : strN (mkB (m :: q)) = m.toNat := rfl
    rw [pS_cons]
    by_cases h1 : 10 < m.toNat
    · rw [if_pos h1]
      refine ⟨?_, by decide⟩
      unfold strE
      rw [if_neg (by omega), hz, hn, if_neg (by omega), if_pos (by omega)]
    · rw [if_neg h1]
      by_cases h2 : q.length < m.toNat
      · rw [if_pos h2]
        refine ⟨?_, by decide⟩
        unfold strE
        rw [if_neg (by omega), hz, hn, if_neg (by omega), if_neg (by omega), if_pos (by omega)]
      · rw [if_neg h2]
        have ok : strOk (mkB (m :: q)) 0 10 = true := by
          unfold strOk
          rw [hz, hn]
          exact decide_eq_true ⟨rfl, by omega, by omega, by omega⟩
        refine ⟨?_, ?_, ?_⟩
        · unfold strR
          rw [ok, if_pos rfl, hn, mkB_ext]
          simp
        · unfold strS
          rw [ok, if_pos rfl, hn, hz, mkB_ext]
          rw [show 1 + m.toNat = m.toNat + 1 by omega, List.drop_succ_cons, List.take_of_length_le (by simp)]
        · unfold strE
          rw [if_neg (by omega), hz, hn, if_neg (by omega), if_neg (by omega), if_neg (by omega)]
theorem erI0 (e : Int) : erI e 0 = e := if_pos rfl

set_option maxRecDepth 100000 in
set_option maxHeartbeats 1000000 in
theorem ivalue_any (g b : Nat) (l : List UInt8) (w : World) (h : Cd w g b (mkB l) 0 0) (hs : l.length ≤ maxLen) :
    Calls Tryd.prog 38 #[.pointer (some ⟨g, 0, none⟩)] w fun e w' => ∃ x : V, e = .returned x.val ∧ ToldC w' g b (pC l) x ∧ Kp (two b g) w w' := by
  have hga := World.grownBy_alloc w (.cells #[.int .i64 0, .int .i64 0, .string ⟨#[]⟩] 40) none
  have h0 := h.keptN hga
  have hV : Vb (w.alloc (.cells #[.int .i64 0, .int .i64 0, .string ⟨#[]⟩] 40)) w.heap.size ⟨0, 0, ⟨#[]⟩⟩ := Vb.new w ⟨0, 0, ⟨#[]⟩⟩
  have hb := h.rd.lt
  have hg := h.cr.lt
  have c0 := h0.cr.c0
  have Hs := hide hs
  clear hs
  cases l with
  | nil =>
    go_enter Tryd.func38, Tryd.ntmps38
    go_wp2_with fail
    refine (rnum_short b 1 [] _ h0.rd (by decide)).mono ?_
    rintro x w1 ⟨rfl, hR1, hg1⟩
    have h1 := h0.read hR1 hg1
    have hV1 := hV.kept hg1 (by simp; omega)
    have hK1 : Kp (two b g) w w1 := (Kp.ofN hga _).step hg1 (fun k hk => by cases hk; exact .inl (.inl rfl))
    have d0 := hV1.c0; have d1 := hV1.c1; have d2 := hV1.c2; have f0 := hV1.fz 0; have f1 := hV1.fz 1; have f2 := hV1.fz 2
    dsimp only at d0 d1 d2
    have hE := vend zV hK1 h1 hV1 (Nat.le_refl _) (by omega) (by omega)
    clear c0 hV hV1 hga h0
    generalize w.heap.size = q at *
    go_wp2_with (go_at_call 37; refine (refuse_err _ _ _ _ _ _ h1 (by decide)).mono ?_; rintro x w' ⟨rfl, rfl⟩)
    refine bodyPost_ret (results_v1 rfl _ q _ zV rfl hE.1) rfl ?_
    exact ⟨zV, rfl, ⟨_, _, _, hE.2.1, rfl⟩, hE.2.2⟩
  | cons c r =>
    have Hr : Hid (r.length ≤ maxLen) := by have := Hs.out; show _ ≤ _; simp only [List.length_cons] at this; omega
    by_cases e1 : c = 1
    · subst e1
      by_cases h8 : r.length < 8
      · rw [pC_short r h8]
        have H8 : Hid (r.length < wid 8) := by show _ < _; rw [wid8]; exact h8
        clear h8
        go_enter Tryd.func38, Tryd.ntmps38
        go_wp2_with fail
        refine (rnum1_cons b _ _ _ h0.rd Hs.out).mono ?_
        rintro x w1 ⟨rfl, hR1, hg1⟩
        have h1 := h0.read hR1 hg1
        have hV1 := hV.kept hg1 (by simp; omega)
        have hK1 : Kp (two b g) w w1 := (Kp.ofN hga _).step hg1 (fun k hk => by cases hk; exact .inl (.inl rfl))
        have c1 := h1.cr.c0
        clear c0 hV hga h0
        go_wp2_with fail
        refine (rnum_short b 8 r _ hR1 H8.out).mono ?_
        rintro x w2 ⟨rfl, hR2, hg2⟩
        have h2 := h1.read hR2 hg2
        have hV2 := hV1.kept hg2 (by simp; omega)
        have hK2 : Kp (two b g) w w2 := hK1.step hg2 (fun k hk => by cases hk; exact .inl (.inl rfl))
        have d0 := hV2.c0; have d1 := hV2.c1; have d2 := hV2.c2; have f0 := hV2.fz 0; have f1 := hV2.fz 1; have f2 := hV2.fz 2
        dsimp only at d0 d1 d2
        have hE := vend ⟨1, 0, ⟨#[]⟩⟩ hK2 h2 hV2 (Nat.le_refl _) (by omega) (by omega)
        clear c1 hV1 hV2
        generalize w.heap.size = q at *
        go_wp2_with fail
        refine bodyPost_ret (results_v1 rfl _ q _ ⟨1, 0, ⟨#[]⟩⟩ rfl hE.1) rfl ?_
        exact ⟨⟨1, 0, ⟨#[]⟩⟩, rfl, ⟨_, _, _, hE.2.1, rfl⟩, hE.2.2⟩
      · rw [pC_int r h8]
        have H8 : Hid (wid 8 ≤ r.length) := by show _ ≤ _; rw [wid8]; omega
        clear h8
        go_enter Tryd.func38, Tryd.ntmps38
        go_wp2_with fail
        refine (rnum1_cons b _ _ _ h0.rd Hs.out).mono ?_
        rintro x w1 ⟨rfl, hR1, hg1⟩
        have h1 := h0.read hR1 hg1
        have hV1 := hV.kept hg1 (by simp; omega)
        have hK1 : Kp (two b g) w w1 := (Kp.ofN hga _).step hg1 (fun k hk => by cases hk; exact .inl (.inl rfl))
        have c1 := h1.cr.c0
        clear c0 hV hga h0
        go_wp2_with fail
        refine (rnum_ok b 8 r _ hR1 H8.out Hr.out).mono ?_
        rintro x w2 ⟨rfl, hR2, hg2⟩
        rw [wid8] at hR2 ⊢
        have h2 := h1.read hR2 hg2
        have hV2 := hV1.kept hg2 (by simp; omega)
        have hK2 : Kp (two b g) w w2 := hK1.step hg2 (fun k hk => by cases hk; exact .inl (.inl rfl))
        have d0 := hV2.c0; have d1 := hV2.c1; have d2 := hV2.c2; have f0 := hV2.fz 0; have f1 := hV2.fz 1; have f2 := hV2.fz 2
        dsimp only at d0 d1 d2
        obtain ⟨m, HM⟩ : ∃ m : Int, Hid (m = wrap64 (val (r.take 8) : Int)) := ⟨_, rfl⟩
        have hE := vend ⟨1, m, ⟨#[]⟩⟩ hK2 h2 hV2 (Nat.le_refl _) (by omega) (by omega)
        clear c1 hV1 hV2
        generalize w.heap.size = q at *
        go_wp2_with fail
        rw [← HM.out]
        refine bodyPost_ret (results_v1 rfl _ q _ ⟨1, m, ⟨#[]⟩⟩ rfl hE.1) rfl ?_
        exact ⟨⟨1, m, ⟨#[]⟩⟩, rfl, ⟨rfl, hE.2.1⟩, hE.2.2⟩
    · by_cases e2 : c = 2
      · subst e2
        have hp := str_pS r
        have e3 : pC (2 :: r) = pS r := by rw [pC_cons, if_neg (by decide), if_pos rfl]
        rw [e3]
        obtain ⟨R, HR⟩ : ∃ R, Hid (strR (mkB r) 0 10 = R) := ⟨_, rfl⟩
        have Hp := hide hp
        have Hz : Hid ((mkB r).size ≤ maxLen) := by show _ ≤ _; rw [mkB_size]; exact Hr.out
        clear hp e3 e1
        go_enter Tryd.func38, Tryd.ntmps38
        go_wp2_with fail
        refine (rnum1_cons b _ _ _ h0.rd Hs.out).mono ?_
        rintro x w1 ⟨rfl, hR1, hg1⟩
        have h1 := h0.read hR1 hg1
        have hV1 := hV.kept hg1 (by simp; omega)
        have hK1 : Kp (two b g) w w1 := (Kp.ofN hga _).step hg1 (fun k hk => by cases hk; exact .inl (.inl rfl))
        have c1 := h1.cr.c0
        clear c0 hV hga h0
        go_wp2_with fail
        refine (rstr_any b _ 0 10 _ hR1 Hz.out).mono ?_
        rintro x w2 ⟨rfl, hR2, hg2⟩
        have h2 := h1.read hR2 hg2
        have hV2 := hV1.kept hg2 (by simp; omega)
        have hK2 : Kp (two b g) w w2 := hK1.step hg2 (fun k hk => by cases hk; exact .inl (.inl rfl))
        have d0 := hV2.c0; have d1 := hV2.c1; have d2 := hV2.c2; have f0 := hV2.fz 0; have f1 := hV2.fz 1; have f2 := hV2.fz 2
        dsimp only at d0 d1 d2
        rw [HR.out]
        have hE := vend ⟨2, 0, R⟩ hK2 h2 hV2 (Nat.le_refl _) (by omega) (by omega)
        clear c1 hV1 hV2
        generalize w.heap.size = q at *
        go_wp2_with fail
        refine bodyPost_ret (results_v1 rfl _ q _ ⟨2, 0, R⟩ rfl hE.1) rfl ?_
        refine ⟨⟨2, 0, R⟩, rfl, ?_, hE.2.2⟩
        have hp := Hp.out
        cases hq : pS r with
        | error er =>
          rw [hq] at hp
          exact ⟨_, _, _, hE.2.1, by rw [erI0]; exact hp.1⟩
        | ok p =>
          obtain ⟨x0, q0⟩ := p
          rw [hq] at hp
          have hC := hE.2.1
          rw [hp.2.1, hp.2.2] at hC
          exact ⟨by rw [hp.1, HR.out], hC⟩
      · have n1 : (wrap64 (c.toNat : Int) == 1) = false := by
          rw [wrap_byte, beq_eq_false_iff_ne]
          intro h
          exact e1 (UInt8.toNat_inj.1 (by simp; omega))
        have n2 : (wrap64 (c.toNat : Int) == 2) = false := by
          rw [wrap_byte, beq_eq_false_iff_ne]
          intro h
          exact e2 (UInt8.toNat_inj.1 (by simp; omega))
        rw [pC_bad c r e1 e2]
        clear e1 e2
        go_enter Tryd.func38, Tryd.ntmps38
        go_wp2_with fail
        refine (rnum1_cons b _ _ _ h0.rd Hs.out).mono ?_
        rintro x w1 ⟨rfl, hR1, hg1⟩
        have h1 := h0.read hR1 hg1
        have hV1 := hV.kept hg1 (by simp; omega)
        have hK1 : Kp (two b g) w w1 := (Kp.ofN hga _).step hg1 (fun k hk => by cases hk; exact .inl (.inl rfl))
        clear c0 hV hga h0
        go_wp2_with fail
        refine (refuse_ok _ _ _ _ h1).mono ?_
        rintro x w2 ⟨rfl, h2, hg2⟩
        have hV2 := hV1.kept hg2 (by simp; omega)
        have hK2 : Kp (two b g) w w2 := hK1.step hg2 (fun k hk => by cases hk; exact .inl (.inr rfl))
        have d0 := hV2.c0; have d1 := hV2.c1; have d2 := hV2.c2; have f0 := hV2.fz 0; have f1 := hV2.fz 1; have f2 := hV2.fz 2
        dsimp only at d0 d1 d2
        have hE := vend zV hK2 h2 hV2 (Nat.le_refl _) (by omega) (by omega)
        clear hV1 hV2
        generalize w.heap.size = q at *
        go_wp2_with fail
        refine bodyPost_ret (results_v1 rfl _ q _ zV rfl hE.1) rfl ?_
        exact ⟨zV, rfl, ⟨_, _, _, hE.2.1, rfl⟩, hE.2.2⟩

end Go.Proofs.YtohcpgoiclapjaaDoor
