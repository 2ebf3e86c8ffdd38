/- Contracts, over the turned program: which record, which value bytes are. Conditions: those that each theorem states. -/
import Derived.Test.YthopmlgfklhagaaERv
namespace Go.Proofs.Ythopmlgfklhagaa
open Go.RowKit
set_option linter.unusedVariables false

theorem vX_wf (t : Sr) : (vX t).wf := by
  have h1 := nX_lt t 1
  have h2 := sX_size (nN t 1)
  have h3 : ∀ n : Int, -9223372036854775808 ≤ wrap64 n ∧ wrap64 n < 9223372036854775808 := by intro n; unfold wrap64; omega
  unfold vX
  split
  · exact ⟨(h3 _).1, (h3 _).2, by show (mkB []).size ≤ _; simp [mkB_size]⟩
  · split
    · exact ⟨by show _ ≤ (0 : Int); decide, by show (0 : Int) < _; decide, by show (sX _).size ≤ _; unfold maxLen; omega⟩
    · exact ⟨by show _ ≤ (0 : Int); decide, by show (0 : Int) < _; decide, by show (mkB []).size ≤ _; simp [mkB_size]⟩
theorem pV_wf (t : Sr) : (pV t).wf := by
  unfold pV
  split
  · exact vX_wf _
  · exact zV_wf
theorem nX_ir (t : Sr) (k : Nat) (h : k ≤ 4) : ir (nX t k : Int) := by
  have h1 := nX_lt t k
  have h2 : 256 ^ k ≤ 256 ^ 4 := Nat.pow_le_pow_right (by omega) h
  unfold ir
  have h3 : (256 : Nat) ^ 4 = 4294967296 := by decide
  omega
theorem pR9_wf (t : Sr) : (pR9 t).wf := ⟨nX_ir _ 1 (by omega), pV_wf _, nX_ir _ 4 (by omega), nX_ir _ 1 (by omega), nX_ir _ 1 (by omega), nX_ir _ 1 (by omega)⟩
theorem nX_w (t : Sr) (k : Nat) (h : k ≤ 4) : wrap64 (nX t k : Int) = (nX t k : Int) := by
  have := nX_ir t k h
  unfold ir at this
  unfold wrap64
  omega
theorem rend9 {w w1 : World} {b q : Nat} {t : Sr} {x : Rc9} (y : Rc9) (hR : Rq w1 b t) (hV : Rb 42 w1 q x) (hg : w.grownBy w1 (some b)) (hq : w.heap.size ≤ q) (hb : b ≠ q) :
    Rb 42 (put8 w1 q y) q y ∧ Rq (put8 w1 q y) b t ∧ w.grownBy (put8 w1 q y) (some b) := by
  have h := hV.put8 y
  exact ⟨h.1, hR.kept h.2 (by intro e; exact hb (Option.some.inj e)), grown_new hg h.2 (fun j e => by cases e; exact hq)⟩

set_option maxRecDepth 100000 in
set_option maxHeartbeats 2000000 in
theorem err_any9 (b : Nat) (t : Sr) (w : World) (h : Rq w b t) :
    Calls Try.prog 38 #[.pointer (some ⟨b, 0, none⟩)] w fun y w' => y = .returned (pR9 t).val ∧ Rq w' b (endR (pVn (nN t 1))) ∧ w.grownBy w' (some b) := by
  have hga := World.grownBy_alloc w (.cells #[.int .i64 0, .int .i64 0, .int .i64 0, .string ⟨#[]⟩, .int .i64 0, .int .i64 0, .int .i64 0, .int .i64 0] 42) none
  have hgb := World.grownBy_alloc (w.alloc (.cells #[.int .i64 0, .int .i64 0, .int .i64 0, .string ⟨#[]⟩, .int .i64 0, .int .i64 0, .int .i64 0, .int .i64 0] 42)) (.cells #[.int .i64 0, .int .i64 0, .int .i64 0, .string ⟨#[]⟩, .int .i64 0, .int .i64 0, .int .i64 0, .int .i64 0] 42) none
  have R0 := (h.kept hga (by simp)).kept hgb (by simp)
  have Q0 : Rb 42 ((w.alloc (.cells #[.int .i64 0, .int .i64 0, .int .i64 0, .string ⟨#[]⟩, .int .i64 0, .int .i64 0, .int .i64 0, .int .i64 0] 42)).alloc (.cells #[.int .i64 0, .int .i64 0, .int .i64 0, .string ⟨#[]⟩, .int .i64 0, .int .i64 0, .int .i64 0, .int .i64 0] 42)) w.heap.size zR := (Rb.new 42 w zR).kept hgb (by simp)
  have M0 : Rb 42 ((w.alloc (.cells #[.int .i64 0, .int .i64 0, .int .i64 0, .string ⟨#[]⟩, .int .i64 0, .int .i64 0, .int .i64 0, .int .i64 0] 42)).alloc (.cells #[.int .i64 0, .int .i64 0, .int .i64 0, .string ⟨#[]⟩, .int .i64 0, .int .i64 0, .int .i64 0, .int .i64 0] 42)) (w.alloc (.cells #[.int .i64 0, .int .i64 0, .int .i64 0, .string ⟨#[]⟩, .int .i64 0, .int .i64 0, .int .i64 0, .int .i64 0] 42)).heap.size zR := Rb.new 42 _ zR
  rw [World.size_alloc] at M0
  have G0 : w.grownBy ((w.alloc (.cells #[.int .i64 0, .int .i64 0, .int .i64 0, .string ⟨#[]⟩, .int .i64 0, .int .i64 0, .int .i64 0, .int .i64 0] 42)).alloc (.cells #[.int .i64 0, .int .i64 0, .int .i64 0, .string ⟨#[]⟩, .int .i64 0, .int .i64 0, .int .i64 0, .int .i64 0] 42)) (some b) := grown_none9 (grown_up hga hgb)
  have hb := h.lt
  have HP : Hid (pR9 t = mkR (pVn (nN t 1)) (nX t 1) (pV (nN t 1))) := rfl
  have HV1 : Hid (nX (nN t 1) 1 = 1 → pV (nN t 1) = vX (nN (nN t 1) 1) ∧ pVn (nN t 1) = vN (nN (nN t 1) 1)) := by
    intro e
    unfold pV pVn
    rw [if_pos e, if_pos e]
    exact ⟨rfl, rfl⟩
  have HV2 : Hid (¬ nX (nN t 1) 1 = 1 → pV (nN t 1) = zV ∧ pVn (nN t 1) = nN (nN t 1) 1) := by
    intro e
    unfold pV pVn
    rw [if_neg e, if_neg e]
    exact ⟨rfl, rfl⟩
  clear hga hgb h
  go_enter Try.func38, Try.ntmps38
  go_upto_region 2 with fail
  generalize (w.alloc (.cells #[.int .i64 0, .int .i64 0, .int .i64 0, .string ⟨#[]⟩, .int .i64 0, .int .i64 0, .int .i64 0, .int .i64 0] 42)).alloc (.cells #[.int .i64 0, .int .i64 0, .int .i64 0, .string ⟨#[]⟩, .int .i64 0, .int .i64 0, .int .i64 0, .int .i64 0] 42) = W0 at *
  obtain ⟨q, HQ⟩ : ∃ q, Hid (w.heap.size = q) := ⟨_, rfl⟩
  have hqq := HQ.out
  rw [hqq] at hb Q0 M0

  go_wp2_with fail
  refine (nnum_any b (t) 1 1 (by decide) _ R0).mono ?_
  rintro y w1 ⟨rfl, R1c, g1c⟩
  have Q1c := Q0.kept g1c (by simp; omega)
  have M1c := M0.kept g1c (by simp; omega)
  have G1c := grown_trans G0 g1c (.inl rfl)
  have hw1 := nX_w (t) 1 (by decide)
  have z1 := M1c.fz 0
  have kc1 := M1c.cs.1
  have M1 := M1c.set0 (nX (t) 1 : Int)
  have s1c := grown_set9 w1 (q + 1) 0 (.int .i64 (nX (t) 1 : Int))
  have Q1 := Q1c.kept s1c (by simp)
  have R1 := R1c.kept s1c (by simp; omega)
  have G1 := grown_new G1c s1c (fun j e => by cases e; omega)
  clear Q0 M0 G0 R0 Q1c M1c G1c R1c g1c s1c
  go_upto_region 3 with fail
  generalize w1.setCell ⟨q + 1, 0, none⟩ (.int .i64 (nX (t) 1 : Int)) = W1 at *
  clear z1 kc1 hw1
  go_wp2_with fail
  refine (nnum_any b (nN t 1) 1 1 (by decide) _ R1).mono ?_
  rintro y w2 ⟨rfl, R2, g2c⟩
  have Q2 := Q1.kept g2c (by simp; omega)
  have M2 := M1.kept g2c (by simp; omega)
  have G2 := grown_trans G1 g2c (.inl rfl)
  clear Q1 M1 G1 R1 g2c
  by_cases e1 : nX (nN t 1) 1 = 1
  · obtain ⟨hv1, hv2⟩ := HV1.out e1
    have e1' : ((nX (nN t 1) 1 : Int) == 1) = true := by rw [e1]; rfl
    have hrv := erv_any b (nN (nN t 1) 1) w2 R2
    have HE2 := hide hv2
    have HE : Hid (pR9 t = mkR (vN (nN (nN t 1) 1)) (nX t 1) (vX (nN (nN t 1) 1))) := by show _ = _; rw [HP.out, hv1, hv2]
    clear hv1 hv2 HP HV1 HV2 e1
    unfold V.val at hrv
    go_wp2_with fail
    refine hrv.mono ?_
    rintro y w3 ⟨rfl, R3c, g3c⟩
    have Q3c := Q2.kept g3c (by simp; omega)
    have M3c := M2.kept g3c (by simp; omega)
    have G3c := grown_trans G2 g3c (.inl rfl)
    have z1 := M3c.fz 1; have z2 := M3c.fz 2; have z3 := M3c.fz 3
    obtain ⟨_, k1, k2, k3, _⟩ := M3c.cs
    have M3 := (M3c.setV (vX (nN (nN t 1) 1))).1
    have s3c := (M3c.setV (vX (nN (nN t 1) 1))).2
    have Q3 := Q3c.kept s3c (by simp)
    have R3 := R3c.kept s3c (by simp; omega)
    have G3 := grown_new G3c s3c (fun j e => by cases e; omega)
    unfold putV9 at M3 Q3 R3 G3
    clear Q2 M2 G2 R2 Q3c M3c G3c R3c g3c s3c
    go_upto_region 5 with fail
    generalize vX (nN (nN t 1) 1) = V at *
    generalize ((w3.setCell ⟨q + 1, 1, none⟩ (.int .i64 V.k)).setCell ⟨q + 1, 2, none⟩ (.int .i64 V.n)).setCell ⟨q + 1, 3, none⟩ (.string V.s) = W3 at *
    clear z1 z2 z3 k1 k2 k3
    go_wp2_with fail
    refine (nnum_any b (vN (nN (nN t 1) 1)) 4 4 (by decide) _ R3).mono ?_
    rintro y w4 ⟨rfl, R4c, g4c⟩
    have Q4c := Q3.kept g4c (by simp; omega)
    have M4c := M3.kept g4c (by simp; omega)
    have G4c := grown_trans G3 g4c (.inl rfl)
    have hw4 := nX_w (vN (nN (nN t 1) 1)) 4 (by decide)
    have z4 := M4c.fz 4
    have kc4 := M4c.cs.2.2.2.2.1
    have M4 := M4c.set4 (nX (vN (nN (nN t 1) 1)) 4 : Int)
    have s4c := grown_set9 w4 (q + 1) 4 (.int .i64 (nX (vN (nN (nN t 1) 1)) 4 : Int))
    have Q4 := Q4c.kept s4c (by simp)
    have R4 := R4c.kept s4c (by simp; omega)
    have G4 := grown_new G4c s4c (fun j e => by cases e; omega)
    clear Q3 M3 G3 R3 Q4c M4c G4c R4c g4c s4c
    go_upto_region 6 with fail
    generalize w4.setCell ⟨q + 1, 4, none⟩ (.int .i64 (nX (vN (nN (nN t 1) 1)) 4 : Int)) = W4 at *
    clear z4 kc4 hw4
    go_wp2_with fail
    refine (nnum_any b (nN (vN (nN (nN t 1) 1)) 4) 1 1 (by decide) _ R4).mono ?_
    rintro y w5 ⟨rfl, R5c, g5c⟩
    have Q5c := Q4.kept g5c (by simp; omega)
    have M5c := M4.kept g5c (by simp; omega)
    have G5c := grown_trans G4 g5c (.inl rfl)
    have hw5 := nX_w (nN (vN (nN (nN t 1) 1)) 4) 1 (by decide)
    have z5 := M5c.fz 5
    have kc5 := M5c.cs.2.2.2.2.2.1
    have M5 := M5c.set5 (nX (nN (vN (nN (nN t 1) 1)) 4) 1 : Int)
    have s5c := grown_set9 w5 (q + 1) 5 (.int .i64 (nX (nN (vN (nN (nN t 1) 1)) 4) 1 : Int))
    have Q5 := Q5c.kept s5c (by simp)
    have R5 := R5c.kept s5c (by simp; omega)
    have G5 := grown_new G5c s5c (fun j e => by cases e; omega)
    clear Q4 M4 G4 R4 Q5c M5c G5c R5c g5c s5c
    go_upto_region 7 with fail
    generalize w5.setCell ⟨q + 1, 5, none⟩ (.int .i64 (nX (nN (vN (nN (nN t 1) 1)) 4) 1 : Int)) = W5 at *
    clear z5 kc5 hw5
    go_wp2_with fail
    refine (nnum_any b (nN (nN (vN (nN (nN t 1) 1)) 4) 1) 1 1 (by decide) _ R5).mono ?_
    rintro y w6 ⟨rfl, R6c, g6c⟩
    have Q6c := Q5.kept g6c (by simp; omega)
    have M6c := M5.kept g6c (by simp; omega)
    have G6c := grown_trans G5 g6c (.inl rfl)
    have hw6 := nX_w (nN (nN (vN (nN (nN t 1) 1)) 4) 1) 1 (by decide)
    have z6 := M6c.fz 6
    have kc6 := M6c.cs.2.2.2.2.2.2.1
    have M6 := M6c.set6 (nX (nN (nN (vN (nN (nN t 1) 1)) 4) 1) 1 : Int)
    have s6c := grown_set9 w6 (q + 1) 6 (.int .i64 (nX (nN (nN (vN (nN (nN t 1) 1)) 4) 1) 1 : Int))
    have Q6 := Q6c.kept s6c (by simp)
    have R6 := R6c.kept s6c (by simp; omega)
    have G6 := grown_new G6c s6c (fun j e => by cases e; omega)
    clear Q5 M5 G5 R5 Q6c M6c G6c R6c g6c s6c
    go_upto_region 8 with fail
    generalize w6.setCell ⟨q + 1, 6, none⟩ (.int .i64 (nX (nN (nN (vN (nN (nN t 1) 1)) 4) 1) 1 : Int)) = W6 at *
    clear z6 kc6 hw6
    go_wp2_with fail
    refine (nnum_any b (nN (nN (nN (vN (nN (nN t 1) 1)) 4) 1) 1) 1 1 (by decide) _ R6).mono ?_
    rintro y w7 ⟨rfl, R7c, g7c⟩
    have Q7c := Q6.kept g7c (by simp; omega)
    have M7c := M6.kept g7c (by simp; omega)
    have G7c := grown_trans G6 g7c (.inl rfl)
    have hw7 := nX_w (nN (nN (nN (vN (nN (nN t 1) 1)) 4) 1) 1) 1 (by decide)
    have z7 := M7c.fz 7
    have kc7 := M7c.cs.2.2.2.2.2.2.2
    have M7 := M7c.set7 (nX (nN (nN (nN (vN (nN (nN t 1) 1)) 4) 1) 1) 1 : Int)
    have s7c := grown_set9 w7 (q + 1) 7 (.int .i64 (nX (nN (nN (nN (vN (nN (nN t 1) 1)) 4) 1) 1) 1 : Int))
    have Q7 := Q7c.kept s7c (by simp)
    have R7 := R7c.kept s7c (by simp; omega)
    have G7 := grown_new G7c s7c (fun j e => by cases e; omega)
    clear Q6 M6 G6 R6 Q7c M7c G7c R7c g7c s7c
    go_upto_region 9 with fail
    generalize w7.setCell ⟨q + 1, 7, none⟩ (.int .i64 (nX (nN (nN (nN (vN (nN (nN t 1) 1)) 4) 1) 1) 1 : Int)) = W7 at *
    clear z7 kc7 hw7
    obtain ⟨m0, m1, m2, m3, m4, m5, m6, m7⟩ := M7.cs
    obtain ⟨y0, y1, y2, y3, y4, y5, y6, y7⟩ := Q7.cs
    have f0 := Q7.fz 0; have f1 := Q7.fz 1; have f2 := Q7.fz 2; have f3 := Q7.fz 3; have f4 := Q7.fz 4; have f5 := Q7.fz 5; have f6 := Q7.fz 6; have f7 := Q7.fz 7
    dsimp only [zR, zV] at m0 m1 m2 m3 m4 m5 m6 m7 y0 y1 y2 y3 y4 y5 y6 y7
    have hE := rend9 (mkR (vN (nN (nN t 1) 1)) (nX t 1) (V)) R7 Q7 G7 (by omega) (by omega)
    go_wp2_with fail
    refine bodyPost_ret (results_rb rfl _ q _ (mkR (vN (nN (nN t 1) 1)) (nX t 1) (V)) rfl hE.1) rfl ?_
    refine ⟨?_, ?_, hE.2.2⟩
    · rw [HE.out]
    · rw [HE2.out]; exact hE.2.1
  · obtain ⟨hv1, hv2⟩ := HV2.out e1
    have e1' : ((nX (nN t 1) 1 : Int) == 1) = false := by rw [beq_eq_false_iff_ne]; omega
    have HE2 := hide hv2
    have HE : Hid (pR9 t = mkR (nN (nN t 1) 1) (nX t 1) zV) := by show _ = _; rw [HP.out, hv1, hv2]
    clear hv1 hv2 HP HV1 HV2 e1
    go_upto_region 5 with fail
    go_wp2_with fail
    refine (nnum_any b (nN (nN t 1) 1) 4 4 (by decide) _ R2).mono ?_
    rintro y w3 ⟨rfl, R3c, g3c⟩
    have Q3c := Q2.kept g3c (by simp; omega)
    have M3c := M2.kept g3c (by simp; omega)
    have G3c := grown_trans G2 g3c (.inl rfl)
    have hw3 := nX_w (nN (nN t 1) 1) 4 (by decide)
    have z3 := M3c.fz 4
    have kc3 := M3c.cs.2.2.2.2.1
    have M3 := M3c.set4 (nX (nN (nN t 1) 1) 4 : Int)
    have s3c := grown_set9 w3 (q + 1) 4 (.int .i64 (nX (nN (nN t 1) 1) 4 : Int))
    have Q3 := Q3c.kept s3c (by simp)
    have R3 := R3c.kept s3c (by simp; omega)
    have G3 := grown_new G3c s3c (fun j e => by cases e; omega)
    clear Q2 M2 G2 R2 Q3c M3c G3c R3c g3c s3c
    go_upto_region 6 with fail
    generalize w3.setCell ⟨q + 1, 4, none⟩ (.int .i64 (nX (nN (nN t 1) 1) 4 : Int)) = W3 at *
    clear z3 kc3 hw3
    go_wp2_with fail
    refine (nnum_any b (nN (nN (nN t 1) 1) 4) 1 1 (by decide) _ R3).mono ?_
    rintro y w4 ⟨rfl, R4c, g4c⟩
    have Q4c := Q3.kept g4c (by simp; omega)
    have M4c := M3.kept g4c (by simp; omega)
    have G4c := grown_trans G3 g4c (.inl rfl)
    have hw4 := nX_w (nN (nN (nN t 1) 1) 4) 1 (by decide)
    have z4 := M4c.fz 5
    have kc4 := M4c.cs.2.2.2.2.2.1
    have M4 := M4c.set5 (nX (nN (nN (nN t 1) 1) 4) 1 : Int)
    have s4c := grown_set9 w4 (q + 1) 5 (.int .i64 (nX (nN (nN (nN t 1) 1) 4) 1 : Int))
    have Q4 := Q4c.kept s4c (by simp)
    have R4 := R4c.kept s4c (by simp; omega)
    have G4 := grown_new G4c s4c (fun j e => by cases e; omega)
    clear Q3 M3 G3 R3 Q4c M4c G4c R4c g4c s4c
    go_upto_region 7 with fail
    generalize w4.setCell ⟨q + 1, 5, none⟩ (.int .i64 (nX (nN (nN (nN t 1) 1) 4) 1 : Int)) = W4 at *
    clear z4 kc4 hw4
    go_wp2_with fail
    refine (nnum_any b (nN (nN (nN (nN t 1) 1) 4) 1) 1 1 (by decide) _ R4).mono ?_
    rintro y w5 ⟨rfl, R5c, g5c⟩
    have Q5c := Q4.kept g5c (by simp; omega)
    have M5c := M4.kept g5c (by simp; omega)
    have G5c := grown_trans G4 g5c (.inl rfl)
    have hw5 := nX_w (nN (nN (nN (nN t 1) 1) 4) 1) 1 (by decide)
    have z5 := M5c.fz 6
    have kc5 := M5c.cs.2.2.2.2.2.2.1
    have M5 := M5c.set6 (nX (nN (nN (nN (nN t 1) 1) 4) 1) 1 : Int)
    have s5c := grown_set9 w5 (q + 1) 6 (.int .i64 (nX (nN (nN (nN (nN t 1) 1) 4) 1) 1 : Int))
    have Q5 := Q5c.kept s5c (by simp)
    have R5 := R5c.kept s5c (by simp; omega)
    have G5 := grown_new G5c s5c (fun j e => by cases e; omega)
    clear Q4 M4 G4 R4 Q5c M5c G5c R5c g5c s5c
    go_upto_region 8 with fail
    generalize w5.setCell ⟨q + 1, 6, none⟩ (.int .i64 (nX (nN (nN (nN (nN t 1) 1) 4) 1) 1 : Int)) = W5 at *
    clear z5 kc5 hw5
    go_wp2_with fail
    refine (nnum_any b (nN (nN (nN (nN (nN t 1) 1) 4) 1) 1) 1 1 (by decide) _ R5).mono ?_
    rintro y w6 ⟨rfl, R6c, g6c⟩
    have Q6c := Q5.kept g6c (by simp; omega)
    have M6c := M5.kept g6c (by simp; omega)
    have G6c := grown_trans G5 g6c (.inl rfl)
    have hw6 := nX_w (nN (nN (nN (nN (nN t 1) 1) 4) 1) 1) 1 (by decide)
    have z6 := M6c.fz 7
    have kc6 := M6c.cs.2.2.2.2.2.2.2
    have M6 := M6c.set7 (nX (nN (nN (nN (nN (nN t 1) 1) 4) 1) 1) 1 : Int)
    have s6c := grown_set9 w6 (q + 1) 7 (.int .i64 (nX (nN (nN (nN (nN (nN t 1) 1) 4) 1) 1) 1 : Int))
    have Q6 := Q6c.kept s6c (by simp)
    have R6 := R6c.kept s6c (by simp; omega)
    have G6 := grown_new G6c s6c (fun j e => by cases e; omega)
    clear Q5 M5 G5 R5 Q6c M6c G6c R6c g6c s6c
    go_upto_region 9 with fail
    generalize w6.setCell ⟨q + 1, 7, none⟩ (.int .i64 (nX (nN (nN (nN (nN (nN t 1) 1) 4) 1) 1) 1 : Int)) = W6 at *
    clear z6 kc6 hw6
    obtain ⟨m0, m1, m2, m3, m4, m5, m6, m7⟩ := M6.cs
    obtain ⟨y0, y1, y2, y3, y4, y5, y6, y7⟩ := Q6.cs
    have f0 := Q6.fz 0; have f1 := Q6.fz 1; have f2 := Q6.fz 2; have f3 := Q6.fz 3; have f4 := Q6.fz 4; have f5 := Q6.fz 5; have f6 := Q6.fz 6; have f7 := Q6.fz 7
    dsimp only [zR, zV] at m0 m1 m2 m3 m4 m5 m6 m7 y0 y1 y2 y3 y4 y5 y6 y7
    have hE := rend9 (mkR (nN (nN t 1) 1) (nX t 1) (zV)) R6 Q6 G6 (by omega) (by omega)
    go_wp2_with fail
    refine bodyPost_ret (results_rb rfl _ q _ (mkR (nN (nN t 1) 1) (nX t 1) (zV)) rfl hE.1) rfl ?_
    refine ⟨?_, ?_, hE.2.2⟩
    · rw [HE.out]
    · rw [HE2.out]; exact hE.2.1
end Go.Proofs.Ythopmlgfklhagaa
