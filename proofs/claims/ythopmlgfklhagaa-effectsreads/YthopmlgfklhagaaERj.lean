/- Contracts, over the turned program: the record of bytes, as the document reads it. Conditions: those that each theorem states. -/
import Derived.Test.YthopmlgfklhagaaERi
import Derived.Test.YthopmlgfklhagaaERc
namespace Go.Proofs.Ythopmlgfklhagaa
open Go.RowKit
set_option linter.unusedVariables false

theorem r_is (x : Rc9) (hw : x.wf) (hk : okR x = true) : nX (nN (mkB (enc9 x), 0) 1) 1 = 1 → (rvN (nN (nN (mkB (enc9 x), 0) 1) 1)).2 = 0 ∧ okC (rvX (nN (nN (mkB (enc9 x), 0) 1) 1)) = true := by
  obtain ⟨h1, h2, _⟩ := okR_parts hk
  unfold enc9
  obtain ⟨a1, a2⟩ := num_app x.e.toNat 1 (encO x.v ++ (be x.sl.toNat 4 ++ (be x.p.toNat 1 ++ (be x.o.toNat 1 ++ be x.k.toNat 1)))) (by show _ < 256; omega)
  rw [a2]
  unfold encO
  by_cases h0 : x.v.k = 0
  · rw [if_pos h0]
    intro h
    rw [(num_app 0 1 _ (by decide)).1] at h
    cases h
  · rw [if_neg h0, List.append_assoc]
    intro _
    rw [(num_app 1 1 _ (by decide)).2]
    rcases valO_cases h2 with h | h
    · exact absurd (by rw [h]; rfl) h0
    · obtain ⟨_, b1, b2⟩ := v_app x.v (be x.sl.toNat 4 ++ (be x.p.toNat 1 ++ (be x.o.toNat 1 ++ be x.k.toNat 1))) hw.2.1 h
      rw [b1, b2]
      exact ⟨rfl, h⟩
theorem rV_wf (t : Sr) : (rV t).wf := by
  unfold rV
  split
  · exact rvX_wf _
  · exact zV_wf
theorem rR9_wf (t : Sr) : (rR9 t).wf := ⟨nX_ir _ 1 (by omega), rV_wf _, nX_ir _ 4 (by omega), nX_ir _ 1 (by omega), nX_ir _ 1 (by omega), nX_ir _ 1 (by omega)⟩
/-- Whether what stands ahead of the rest may be. -/
def okF (t : Sr) : Bool := if nX t 1 = 1 then ((rvN (nN t 1)).2 == 0 && okC (rvX (nN t 1))) else decide ((nX t 1 : Int) < 2)
theorem rr_yes (s : ByteArray) (h1 : okF (nN (s, 0) 1) = true) (h2 : doneE (endR (rVn (nN (s, 0) 1))).1 (endR (rVn (nN (s, 0) 1))).2 = 0) (h3 : okR (rR9 (s, 0)) = true) : ToldR s (rR9 (s, 0)) 0 := by
  obtain ⟨a1, a2⟩ := (doneE_0 _ _).1 h2
  refine .inl ⟨rfl, h3, rR9_wf _, r_of s a1 a2 ?_ ?_⟩
  · unfold okF at h1
    split at h1
    · omega
    · have := of_decide_eq_true h1; omega
  · intro e
    unfold okF at h1
    rw [if_pos e, Bool.and_eq_true] at h1
    unfold rV
    rw [if_pos e]
    exact h1.2
theorem rr_no (s : ByteArray) (h : ¬ (okF (nN (s, 0) 1) = true ∧ doneE (endR (rVn (nN (s, 0) 1))).1 (endR (rVn (nN (s, 0) 1))).2 = 0 ∧ okR (rR9 (s, 0)) = true)) : ToldR s zR 10 := by
  refine .inr ⟨rfl, rfl, fun y hy ky ey => h ?_⟩
  obtain ⟨_, a1, a2, a3⟩ := r_app y hy ky
  have a4 := r_is y hy ky
  rw [ey, mkB_self] at a1 a2 a3 a4
  rw [a1, a2]
  refine ⟨?_, rfl, ky⟩
  unfold okF
  by_cases e : nX (nN (s, 0) 1) 1 = 1
  · rw [if_pos e, (a4 e).1, (a4 e).2]; rfl
  · rw [if_neg e, decide_eq_true]; omega
theorem zend17 {w w1 : World} {b q : Nat} {x : Rc9} (y : Rc9) (hV : Rb 33 w1 q x) (hg : w.grownBy w1 none) (hq : w.heap.size ≤ q) :
    Rb 33 (put8 w1 q y) q y ∧ w.grownBy (put8 w1 q y) none := by
  have h := hV.put8 y
  exact ⟨h.1, grown_new hg h.2 (fun j e => by cases e; exact hq)⟩

set_option maxRecDepth 100000 in
set_option maxHeartbeats 4000000 in
theorem rread17_any (s : ByteArray) (w : World) (hs : s.size ≤ maxLen) :
    Calls Try.prog 20 #[.string s] w fun e w' => ∃ (x : Rc9) (er : Int), e = .returned (.tuple #[x.val, .int .i64 er]) ∧ ToldR s x er ∧ w.grownBy w' none := by
  have hga := World.grownBy_alloc w (.cells #[.int .i64 0, .int .i64 0, .int .i64 0, .string ⟨#[]⟩, .int .i64 0, .int .i64 0, .int .i64 0, .int .i64 0] 33) none
  have hgb := World.grownBy_alloc (w.alloc (.cells #[.int .i64 0, .int .i64 0, .int .i64 0, .string ⟨#[]⟩, .int .i64 0, .int .i64 0, .int .i64 0, .int .i64 0] 33)) (.cells #[.string s, .int .i64 0, .int .i64 0] 70) none
  have hgc := World.grownBy_alloc ((w.alloc (.cells #[.int .i64 0, .int .i64 0, .int .i64 0, .string ⟨#[]⟩, .int .i64 0, .int .i64 0, .int .i64 0, .int .i64 0] 33)).alloc (.cells #[.string s, .int .i64 0, .int .i64 0] 70)) (.cells #[.int .i64 0, .int .i64 0, .int .i64 0, .string ⟨#[]⟩, .int .i64 0, .int .i64 0, .int .i64 0, .int .i64 0] 33) none
  have R0 : Rz (((w.alloc (.cells #[.int .i64 0, .int .i64 0, .int .i64 0, .string ⟨#[]⟩, .int .i64 0, .int .i64 0, .int .i64 0, .int .i64 0] 33)).alloc (.cells #[.string s, .int .i64 0, .int .i64 0] 70)).alloc (.cells #[.int .i64 0, .int .i64 0, .int .i64 0, .string ⟨#[]⟩, .int .i64 0, .int .i64 0, .int .i64 0, .int .i64 0] 33)) (w.heap.size + 1) s (s, 0) := by have := Rz.new (w.alloc (.cells #[.int .i64 0, .int .i64 0, .int .i64 0, .string ⟨#[]⟩, .int .i64 0, .int .i64 0, .int .i64 0, .int .i64 0] 33)) s hs; rw [World.size_alloc] at this; exact this.kept hgc (by simp)
  have Q0 : Rb 33 (((w.alloc (.cells #[.int .i64 0, .int .i64 0, .int .i64 0, .string ⟨#[]⟩, .int .i64 0, .int .i64 0, .int .i64 0, .int .i64 0] 33)).alloc (.cells #[.string s, .int .i64 0, .int .i64 0] 70)).alloc (.cells #[.int .i64 0, .int .i64 0, .int .i64 0, .string ⟨#[]⟩, .int .i64 0, .int .i64 0, .int .i64 0, .int .i64 0] 33)) w.heap.size zR := ((Rb.new 33 w zR).kept hgb (by simp)).kept hgc (by simp)
  have M0 : Rb 33 (((w.alloc (.cells #[.int .i64 0, .int .i64 0, .int .i64 0, .string ⟨#[]⟩, .int .i64 0, .int .i64 0, .int .i64 0, .int .i64 0] 33)).alloc (.cells #[.string s, .int .i64 0, .int .i64 0] 70)).alloc (.cells #[.int .i64 0, .int .i64 0, .int .i64 0, .string ⟨#[]⟩, .int .i64 0, .int .i64 0, .int .i64 0, .int .i64 0] 33)) (w.heap.size + 1 + 1) zR := by have := Rb.new 33 ((w.alloc (.cells #[.int .i64 0, .int .i64 0, .int .i64 0, .string ⟨#[]⟩, .int .i64 0, .int .i64 0, .int .i64 0, .int .i64 0] 33)).alloc (.cells #[.string s, .int .i64 0, .int .i64 0] 70)) zR; rw [World.size_alloc, World.size_alloc] at this; exact this
  have G0 : w.grownBy (((w.alloc (.cells #[.int .i64 0, .int .i64 0, .int .i64 0, .string ⟨#[]⟩, .int .i64 0, .int .i64 0, .int .i64 0, .int .i64 0] 33)).alloc (.cells #[.string s, .int .i64 0, .int .i64 0] 70)).alloc (.cells #[.int .i64 0, .int .i64 0, .int .i64 0, .string ⟨#[]⟩, .int .i64 0, .int .i64 0, .int .i64 0, .int .i64 0] 33)) none := grown_up (grown_up hga hgb) hgc
  have Hyes := hide (rr_yes s)
  have Hno := hide (rr_no s)
  have HX : Hid (rR9 (s, 0) = mkR (rVn (nN (s, 0) 1)) (nX (s, 0) 1) (rV (nN (s, 0) 1))) := rfl
  have HF : Hid (okF (nN (s, 0) 1) = if nX (nN (s, 0) 1) 1 = 1 then ((rvN (nN (nN (s, 0) 1) 1)).2 == 0 && okC (rvX (nN (nN (s, 0) 1) 1))) else decide ((nX (nN (s, 0) 1) 1 : Int) < 2)) := rfl
  have HV : Hid (rV (nN (s, 0) 1) = if nX (nN (s, 0) 1) 1 = 1 then rvX (nN (nN (s, 0) 1) 1) else zV) := rfl
  have HVn : Hid (rVn (nN (s, 0) 1) = if nX (nN (s, 0) 1) 1 = 1 then rvN (nN (nN (s, 0) 1) 1) else nN (nN (s, 0) 1) 1) := rfl
  clear hga hgb hgc
  go_enter Try.func20, Try.ntmps20
  go_upto_region 3 with fail
  generalize ((w.alloc (.cells #[.int .i64 0, .int .i64 0, .int .i64 0, .string ⟨#[]⟩, .int .i64 0, .int .i64 0, .int .i64 0, .int .i64 0] 33)).alloc (.cells #[.string s, .int .i64 0, .int .i64 0] 70)).alloc (.cells #[.int .i64 0, .int .i64 0, .int .i64 0, .string ⟨#[]⟩, .int .i64 0, .int .i64 0, .int .i64 0, .int .i64 0] 33) = W0 at *
  obtain ⟨q, HQ⟩ : ∃ q, Hid (w.heap.size = q) := ⟨_, rfl⟩
  have hqq := HQ.out
  rw [hqq] at R0 Q0 M0
  go_wp2_with fail
  refine (rznum_any (q + 1) s ((s, 0)) 1 1 (by decide) _ R0).mono ?_
  rintro y w1 ⟨rfl, R1, g1⟩
  have Q1 := Q0.kept g1 (by simp)
  have M1 := M0.kept g1 (by simp)
  have G1 := grown_new G0 g1 (fun j e => by cases e; omega)
  clear Q0 M0 G0 R0 g1
  go_wp2_with fail
  refine (rznum_any (q + 1) s (nN (s, 0) 1) 1 1 (by decide) _ R1).mono ?_
  rintro y w2 ⟨rfl, R2, g2⟩
  have Q2 := Q1.kept g2 (by simp)
  have M2 := M1.kept g2 (by simp)
  have G2 := grown_new G1 g2 (fun j e => by cases e; omega)
  clear Q1 M1 G1 R1 g2
  by_cases e1 : nX (nN (s, 0) 1) 1 = 1
  · have hv := HV.out; rw [if_pos e1] at hv
    have hvn := HVn.out; rw [if_pos e1] at hvn
    have hF := HF.out; rw [if_pos e1] at hF
    have HF := hide hF
    have hv := hide hv; have hvn := hide hvn
    have hv := hv.out; have hvn := hvn.out
    have e1' : ((nX (nN (s, 0) 1) 1 : Int) == 1) = true := by rw [e1]; rfl
    have hrv := rnext_any (q + 1) s (nN (nN (s, 0) 1) 1) w2 R2
    clear hF HV HVn e1
    obtain ⟨VV, HVV⟩ : ∃ VV, Hid (rvX (nN (nN (s, 0) 1) 1) = VV) := ⟨_, rfl⟩
    obtain ⟨FF, HFF⟩ : ∃ FF, Hid (((rvN (nN (nN (s, 0) 1) 1)).2 == 0 && okC (rvX (nN (nN (s, 0) 1) 1))) = FF) := ⟨_, rfl⟩
    rw [HFF.out, HVV.out] at hrv
    rw [HFF.out] at HF
    rw [HVV.out] at hv
    obtain ⟨t3, HT3⟩ : ∃ t3, Hid (rvN (nN (nN (s, 0) 1) 1) = t3) := ⟨_, rfl⟩
    rw [HT3.out] at hrv hvn
    have HVh := hide hv; have HVnh := hide hvn
    clear hv hvn
    unfold V.val at hrv
    go_wp2_with fail
    refine hrv.mono ?_
    rintro y w3 ⟨rfl, R3, g3⟩
    have Q3 := Q2.kept g3 (by simp)
    have M3 := M2.kept g3 (by simp)
    have G3 := grown_new G2 g3 (fun j e => by cases e; omega)
    clear Q2 M2 G2 R2 g3 hrv
    have g4 := World.grownBy_alloc w3 (.cells #[.int .i64 VV.k, .int .i64 VV.n, .string VV.s] 24) none
    have R4 := R3.kept g4 (by simp)
    have Q4 := Q3.kept g4 (by simp)
    have M4 := M3.kept g4 (by simp)
    have G4 := grown_up G3 g4
    have V4 : Vb (w3.alloc (.cells #[.int .i64 VV.k, .int .i64 VV.n, .string VV.s] 24)) w3.heap.size VV := Vb.new w3 VV
    have hm3 := M3.lt
    clear Q3 M3 G3 R3 g4
    go_upto_region 8 with fail
    generalize w3.alloc (.cells #[.int .i64 VV.k, .int .i64 VV.n, .string VV.s] 24) = W4 at *
    generalize w3.heap.size = u at *
    have v0 := V4.c0; have v1 := V4.c1; have v2 := V4.c2
    have z1 := M4.fz 1; have z2 := M4.fz 2; have z3 := M4.fz 3
    obtain ⟨_, k1, k2, k3, _⟩ := M4.cs
    have M5 := (M4.setV VV).1
    have s5 := (M4.setV VV).2
    have Q5 := Q4.kept s5 (by simp; omega)
    have R5 := R4.kept s5 (by simp)
    have G5 := grown_new G4 s5 (fun j e => by cases e; omega)
    unfold putV9 at M5 Q5 R5 G5
    clear Q4 M4 G4 R4 s5 V4
    go_upto_region 9 with fail
    generalize ((W4.setCell ⟨q + 1 + 1, 1, none⟩ (.int .i64 VV.k)).setCell ⟨q + 1 + 1, 2, none⟩ (.int .i64 VV.n)).setCell ⟨q + 1 + 1, 3, none⟩ (.string VV.s) = W5 at *
    clear z1 z2 z3 k1 k2 k3 v0 v1 v2
    go_wp2_with fail
    refine (rznum_any (q + 1) s (t3) 4 4 (by decide) _ R5).mono ?_
    rintro y w6 ⟨rfl, R6, g6⟩
    have Q6 := Q5.kept g6 (by simp)
    have M6 := M5.kept g6 (by simp)
    have G6 := grown_new G5 g6 (fun j e => by cases e; omega)
    clear Q5 M5 G5 R5 g6
    go_wp2_with fail
    refine (rznum_any (q + 1) s (nN (t3) 4) 1 1 (by decide) _ R6).mono ?_
    rintro y w7 ⟨rfl, R7, g7⟩
    have Q7 := Q6.kept g7 (by simp)
    have M7 := M6.kept g7 (by simp)
    have G7 := grown_new G6 g7 (fun j e => by cases e; omega)
    clear Q6 M6 G6 R6 g7
    go_wp2_with fail
    refine (rznum_any (q + 1) s (nN (nN (t3) 4) 1) 1 1 (by decide) _ R7).mono ?_
    rintro y w8 ⟨rfl, R8, g8⟩
    have Q8 := Q7.kept g8 (by simp)
    have M8 := M7.kept g8 (by simp)
    have G8 := grown_new G7 g8 (fun j e => by cases e; omega)
    clear Q7 M7 G7 R7 g8
    go_wp2_with fail
    refine (rznum_any (q + 1) s (nN (nN (nN (t3) 4) 1) 1) 1 1 (by decide) _ R8).mono ?_
    rintro y w9 ⟨rfl, R9, g9⟩
    have Q9 := Q8.kept g9 (by simp)
    have M9 := M8.kept g9 (by simp)
    have G9 := grown_new G8 g9 (fun j e => by cases e; omega)
    clear Q8 M8 G8 R8 g9
    go_upto_region 14 with fail
    have z10 := M9.fz 0
    have kc10 := M9.cs.1
    have hw10 := nX_w ((s, 0)) 1 (by decide)
    have M10 := M9.set0 (nX ((s, 0)) 1 : Int)
    have s10c := grown_set9 w9 (q + 1 + 1) 0 (.int .i64 (nX ((s, 0)) 1 : Int))
    have Q10 := Q9.kept s10c (by simp; omega)
    have R10 := R9.kept s10c (by simp)
    have G10 := grown_new G9 s10c (fun j e => by cases e; omega)
    clear Q9 M9 G9 R9 s10c
    go_upto_region 15 with fail
    generalize w9.setCell ⟨q + 1 + 1, 0, none⟩ (.int .i64 (nX ((s, 0)) 1 : Int)) = W10 at *
    clear z10 kc10 hw10
    have z11 := M10.fz 4
    have kc11 := M10.cs.2.2.2.2.1
    have hw11 := nX_w (t3) 4 (by decide)
    have M11 := M10.set4 (nX (t3) 4 : Int)
    have s11c := grown_set9 W10 (q + 1 + 1) 4 (.int .i64 (nX (t3) 4 : Int))
    have Q11 := Q10.kept s11c (by simp; omega)
    have R11 := R10.kept s11c (by simp)
    have G11 := grown_new G10 s11c (fun j e => by cases e; omega)
    clear Q10 M10 G10 R10 s11c
    go_upto_region 16 with fail
    generalize W10.setCell ⟨q + 1 + 1, 4, none⟩ (.int .i64 (nX (t3) 4 : Int)) = W11 at *
    clear z11 kc11 hw11
    have z12 := M11.fz 5
    have kc12 := M11.cs.2.2.2.2.2.1
    have hw12 := nX_w (nN (t3) 4) 1 (by decide)
    have M12 := M11.set5 (nX (nN (t3) 4) 1 : Int)
    have s12c := grown_set9 W11 (q + 1 + 1) 5 (.int .i64 (nX (nN (t3) 4) 1 : Int))
    have Q12 := Q11.kept s12c (by simp; omega)
    have R12 := R11.kept s12c (by simp)
    have G12 := grown_new G11 s12c (fun j e => by cases e; omega)
    clear Q11 M11 G11 R11 s12c
    go_upto_region 17 with fail
    generalize W11.setCell ⟨q + 1 + 1, 5, none⟩ (.int .i64 (nX (nN (t3) 4) 1 : Int)) = W12 at *
    clear z12 kc12 hw12
    have z13 := M12.fz 6
    have kc13 := M12.cs.2.2.2.2.2.2.1
    have hw13 := nX_w (nN (nN (t3) 4) 1) 1 (by decide)
    have M13 := M12.set6 (nX (nN (nN (t3) 4) 1) 1 : Int)
    have s13c := grown_set9 W12 (q + 1 + 1) 6 (.int .i64 (nX (nN (nN (t3) 4) 1) 1 : Int))
    have Q13 := Q12.kept s13c (by simp; omega)
    have R13 := R12.kept s13c (by simp)
    have G13 := grown_new G12 s13c (fun j e => by cases e; omega)
    clear Q12 M12 G12 R12 s13c
    go_upto_region 18 with fail
    generalize W12.setCell ⟨q + 1 + 1, 6, none⟩ (.int .i64 (nX (nN (nN (t3) 4) 1) 1 : Int)) = W13 at *
    clear z13 kc13 hw13
    have z14 := M13.fz 7
    have kc14 := M13.cs.2.2.2.2.2.2.2
    have hw14 := nX_w (nN (nN (nN (t3) 4) 1) 1) 1 (by decide)
    have M14 := M13.set7 (nX (nN (nN (nN (t3) 4) 1) 1) 1 : Int)
    have s14c := grown_set9 W13 (q + 1 + 1) 7 (.int .i64 (nX (nN (nN (nN (t3) 4) 1) 1) 1 : Int))
    have Q14 := Q13.kept s14c (by simp; omega)
    have R14 := R13.kept s14c (by simp)
    have G14 := grown_new G13 s14c (fun j e => by cases e; omega)
    clear Q13 M13 G13 R13 s14c
    go_upto_region 19 with fail
    generalize W13.setCell ⟨q + 1 + 1, 7, none⟩ (.int .i64 (nX (nN (nN (nN (t3) 4) 1) 1) 1 : Int)) = W14 at *
    clear z14 kc14 hw14
    have hXX : Hid (rR9 (s, 0) = ⟨(nX (s, 0) 1 : Int), VV, (nX (t3) 4 : Int), (nX (nN (t3) 4) 1 : Int), (nX (nN (nN (t3) 4) 1) 1 : Int), (nX (nN (nN (nN (t3) 4) 1) 1) 1 : Int)⟩) := by show _ = _; rw [HX.out, HVnh.out, HVh.out]; rfl
    obtain ⟨X, HXX⟩ : ∃ X, Hid (rR9 (s, 0) = X) := ⟨_, rfl⟩
    rw [HXX.out] at hXX Hyes Hno
    have M : Rb 33 W14 (q + 1 + 1) X := by rw [hXX.out]; exact M14
    have HE : Hid (nN (nN (nN (nN (t3) 4) 1) 1) 1 = endR (rVn (nN (s, 0) 1))) := by show _ = _; rw [HVnh.out]; rfl
    have R : Rz W14 (q + 1) s (endR (rVn (nN (s, 0) 1))) := by rw [← HE.out]; exact R14
    clear HVh HVnh HX HXX hXX HE M14 R14
    generalize endR (rVn (nN (s, 0) 1)) = te at *
    have hdn := rzdone_any _ s te W14 R
    have hrt := fun W => rright17_any X W
    have Q := Q14
    have G := G14
    obtain ⟨m0, m1, m2, m3, m4, m5, m6, m7⟩ := M.cs
    obtain ⟨y0, y1, y2, y3, y4, y5, y6, y7⟩ := Q.cs
    have f0 := Q.fz 0; have f1 := Q.fz 1; have f2 := Q.fz 2; have f3 := Q.fz 3; have f4 := Q.fz 4; have f5 := Q.fz 5; have f6 := Q.fz 6; have f7 := Q.fz 7
    dsimp only [zR, zV] at y0 y1 y2 y3 y4 y5 y6 y7
    unfold Rc9.val at hrt
    by_cases hok : FF = true
    · by_cases hd : doneE te.1 te.2 = 0
      · rw [hd] at hdn
        cases hr : okR X with
        | true =>
          have HT := hide (Hyes.out (by rw [HF.out]; exact hok) hd hr)
          rw [hr] at hrt
          subst hok
          clear hd hr
          go_wp2_with (first
            | (go_at_call 32; refine hdn.mono ?_; rintro e wd ⟨rfl, gd⟩; have Md := M.kept gd (by simp); have Qd := Q.kept gd (by simp); have Gd := grown_up G gd; obtain ⟨m0, m1, m2, m3, m4, m5, m6, m7⟩ := Md.cs; clear y0 y1 y2 y3 y4 y5 y6 y7 f0 f1 f2 f3 f4 f5 f6 f7)
            | (go_at_call 37; refine (hrt _).mono ?_; rintro e wr ⟨rfl, gr⟩; have Me := Md.kept gr (by simp); have Qe := Qd.kept gr (by simp); have Ge := grown_up Gd gr; obtain ⟨m0, m1, m2, m3, m4, m5, m6, m7⟩ := Me.cs; obtain ⟨y0, y1, y2, y3, y4, y5, y6, y7⟩ := Qe.cs; have f0 := Qe.fz 0; have f1 := Qe.fz 1; have f2 := Qe.fz 2; have f3 := Qe.fz 3; have f4 := Qe.fz 4; have f5 := Qe.fz 5; have f6 := Qe.fz 6; have f7 := Qe.fz 7; dsimp only [zR, zV] at y0 y1 y2 y3 y4 y5 y6 y7))
          have hh := zend17 (b := 0) X Qe Ge (by omega)
          go_wp2_with fail
          refine bodyPost_ret (results_rrb2 rfl _ q _ X (.int .i64 0) rfl rfl hh.1) rfl ?_
          exact ⟨X, 0, rfl, HT.out, hh.2⟩
        | false =>
          have HT := hide (Hno.out (fun h => by rw [hr] at h; cases h.2.2))
          rw [hr] at hrt
          subst hok
          clear hd hr
          go_wp2_with (first
            | (go_at_call 32; refine hdn.mono ?_; rintro e wd ⟨rfl, gd⟩; have Md := M.kept gd (by simp); have Qd := Q.kept gd (by simp); have Gd := grown_up G gd; obtain ⟨m0, m1, m2, m3, m4, m5, m6, m7⟩ := Md.cs; clear y0 y1 y2 y3 y4 y5 y6 y7 f0 f1 f2 f3 f4 f5 f6 f7)
            | (go_at_call 37; refine (hrt _).mono ?_; rintro e wr ⟨rfl, gr⟩; have Qe := Qd.kept gr (by simp); have Ge := grown_up Gd gr; obtain ⟨y0, y1, y2, y3, y4, y5, y6, y7⟩ := Qe.cs; have f0 := Qe.fz 0; have f1 := Qe.fz 1; have f2 := Qe.fz 2; have f3 := Qe.fz 3; have f4 := Qe.fz 4; have f5 := Qe.fz 5; have f6 := Qe.fz 6; have f7 := Qe.fz 7; dsimp only [zR, zV] at y0 y1 y2 y3 y4 y5 y6 y7))
          have hh := zend17 (b := 0) zR Qe Ge (by omega)
          go_wp2_with fail
          refine bodyPost_ret (results_rrb2 rfl _ q _ zR (.int .i64 10) rfl rfl hh.1) rfl ?_
          exact ⟨zR, 10, rfl, HT.out, hh.2⟩
      · have HT := hide (Hno.out (fun h => hd h.2.1))
        generalize doneE te.1 te.2 = d at *
        have hd' : (d != 0) = true := by simp [hd]
        subst hok
        clear hd
        go_wp2_with (go_at_call 32; refine hdn.mono ?_; rintro e wd ⟨rfl, gd⟩; have Qe := Q.kept gd (by simp); have Ge := grown_up G gd; obtain ⟨y0, y1, y2, y3, y4, y5, y6, y7⟩ := Qe.cs; have f0 := Qe.fz 0; have f1 := Qe.fz 1; have f2 := Qe.fz 2; have f3 := Qe.fz 3; have f4 := Qe.fz 4; have f5 := Qe.fz 5; have f6 := Qe.fz 6; have f7 := Qe.fz 7; dsimp only [zR, zV] at y0 y1 y2 y3 y4 y5 y6 y7)
        have hh := zend17 (b := 0) zR Qe Ge (by omega)
        go_wp2_with fail
        refine bodyPost_ret (results_rrb2 rfl _ q _ zR (.int .i64 10) rfl rfl hh.1) rfl ?_
        exact ⟨zR, 10, rfl, HT.out, hh.2⟩
    · have HT := hide (Hno.out (fun h => hok (by have := h.1; rw [HF.out] at this; exact this)))
      have hok' : FF = false := by simpa using hok
      subst hok'
      clear hok
      have hh := zend17 (b := 0) zR Q G (by omega)
      go_wp2_with fail
      refine bodyPost_ret (results_rrb2 rfl _ q _ zR (.int .i64 10) rfl rfl hh.1) rfl ?_
      exact ⟨zR, 10, rfl, HT.out, hh.2⟩
  · have hv := HV.out; rw [if_neg e1] at hv
    have hvn := HVn.out; rw [if_neg e1] at hvn
    have hF := HF.out; rw [if_neg e1] at hF
    have HF := hide hF
    have e1' : ((nX (nN (s, 0) 1) 1 : Int) == 1) = false := by rw [beq_eq_false_iff_ne]; omega
    have HVh := hide hv; have HVnh := hide hvn
    clear hF HV HVn e1 hv hvn
    obtain ⟨FF, HFF⟩ : ∃ FF, Hid (decide ((nX (nN (s, 0) 1) 1 : Int) < 2) = FF) := ⟨_, rfl⟩
    rw [HFF.out] at HF
    go_wp2_with fail
    refine (rznum_any (q + 1) s (nN (nN (s, 0) 1) 1) 4 4 (by decide) _ R2).mono ?_
    rintro y w3 ⟨rfl, R3, g3⟩
    have Q3 := Q2.kept g3 (by simp)
    have M3 := M2.kept g3 (by simp)
    have G3 := grown_new G2 g3 (fun j e => by cases e; omega)
    clear Q2 M2 G2 R2 g3
    go_wp2_with fail
    refine (rznum_any (q + 1) s (nN (nN (nN (s, 0) 1) 1) 4) 1 1 (by decide) _ R3).mono ?_
    rintro y w4 ⟨rfl, R4, g4⟩
    have Q4 := Q3.kept g4 (by simp)
    have M4 := M3.kept g4 (by simp)
    have G4 := grown_new G3 g4 (fun j e => by cases e; omega)
    clear Q3 M3 G3 R3 g4
    go_wp2_with fail
    refine (rznum_any (q + 1) s (nN (nN (nN (nN (s, 0) 1) 1) 4) 1) 1 1 (by decide) _ R4).mono ?_
    rintro y w5 ⟨rfl, R5, g5⟩
    have Q5 := Q4.kept g5 (by simp)
    have M5 := M4.kept g5 (by simp)
    have G5 := grown_new G4 g5 (fun j e => by cases e; omega)
    clear Q4 M4 G4 R4 g5
    go_wp2_with fail
    refine (rznum_any (q + 1) s (nN (nN (nN (nN (nN (s, 0) 1) 1) 4) 1) 1) 1 1 (by decide) _ R5).mono ?_
    rintro y w6 ⟨rfl, R6, g6⟩
    have Q6 := Q5.kept g6 (by simp)
    have M6 := M5.kept g6 (by simp)
    have G6 := grown_new G5 g6 (fun j e => by cases e; omega)
    clear Q5 M5 G5 R5 g6
    go_upto_region 14 with fail
    have z7 := M6.fz 0
    have kc7 := M6.cs.1
    have hw7 := nX_w ((s, 0)) 1 (by decide)
    have M7 := M6.set0 (nX ((s, 0)) 1 : Int)
    have s7c := grown_set9 w6 (q + 1 + 1) 0 (.int .i64 (nX ((s, 0)) 1 : Int))
    have Q7 := Q6.kept s7c (by simp; omega)
    have R7 := R6.kept s7c (by simp)
    have G7 := grown_new G6 s7c (fun j e => by cases e; omega)
    clear Q6 M6 G6 R6 s7c
    go_upto_region 15 with fail
    generalize w6.setCell ⟨q + 1 + 1, 0, none⟩ (.int .i64 (nX ((s, 0)) 1 : Int)) = W7 at *
    clear z7 kc7 hw7
    have z8 := M7.fz 4
    have kc8 := M7.cs.2.2.2.2.1
    have hw8 := nX_w (nN (nN (s, 0) 1) 1) 4 (by decide)
    have M8 := M7.set4 (nX (nN (nN (s, 0) 1) 1) 4 : Int)
    have s8c := grown_set9 W7 (q + 1 + 1) 4 (.int .i64 (nX (nN (nN (s, 0) 1) 1) 4 : Int))
    have Q8 := Q7.kept s8c (by simp; omega)
    have R8 := R7.kept s8c (by simp)
    have G8 := grown_new G7 s8c (fun j e => by cases e; omega)
    clear Q7 M7 G7 R7 s8c
    go_upto_region 16 with fail
    generalize W7.setCell ⟨q + 1 + 1, 4, none⟩ (.int .i64 (nX (nN (nN (s, 0) 1) 1) 4 : Int)) = W8 at *
    clear z8 kc8 hw8
    have z9 := M8.fz 5
    have kc9 := M8.cs.2.2.2.2.2.1
    have hw9 := nX_w (nN (nN (nN (s, 0) 1) 1) 4) 1 (by decide)
    have M9 := M8.set5 (nX (nN (nN (nN (s, 0) 1) 1) 4) 1 : Int)
    have s9c := grown_set9 W8 (q + 1 + 1) 5 (.int .i64 (nX (nN (nN (nN (s, 0) 1) 1) 4) 1 : Int))
    have Q9 := Q8.kept s9c (by simp; omega)
    have R9 := R8.kept s9c (by simp)
    have G9 := grown_new G8 s9c (fun j e => by cases e; omega)
    clear Q8 M8 G8 R8 s9c
    go_upto_region 17 with fail
    generalize W8.setCell ⟨q + 1 + 1, 5, none⟩ (.int .i64 (nX (nN (nN (nN (s, 0) 1) 1) 4) 1 : Int)) = W9 at *
    clear z9 kc9 hw9
    have z10 := M9.fz 6
    have kc10 := M9.cs.2.2.2.2.2.2.1
    have hw10 := nX_w (nN (nN (nN (nN (s, 0) 1) 1) 4) 1) 1 (by decide)
    have M10 := M9.set6 (nX (nN (nN (nN (nN (s, 0) 1) 1) 4) 1) 1 : Int)
    have s10c := grown_set9 W9 (q + 1 + 1) 6 (.int .i64 (nX (nN (nN (nN (nN (s, 0) 1) 1) 4) 1) 1 : Int))
    have Q10 := Q9.kept s10c (by simp; omega)
    have R10 := R9.kept s10c (by simp)
    have G10 := grown_new G9 s10c (fun j e => by cases e; omega)
    clear Q9 M9 G9 R9 s10c
    go_upto_region 18 with fail
    generalize W9.setCell ⟨q + 1 + 1, 6, none⟩ (.int .i64 (nX (nN (nN (nN (nN (s, 0) 1) 1) 4) 1) 1 : Int)) = W10 at *
    clear z10 kc10 hw10
    have z11 := M10.fz 7
    have kc11 := M10.cs.2.2.2.2.2.2.2
    have hw11 := nX_w (nN (nN (nN (nN (nN (s, 0) 1) 1) 4) 1) 1) 1 (by decide)
    have M11 := M10.set7 (nX (nN (nN (nN (nN (nN (s, 0) 1) 1) 4) 1) 1) 1 : Int)
    have s11c := grown_set9 W10 (q + 1 + 1) 7 (.int .i64 (nX (nN (nN (nN (nN (nN (s, 0) 1) 1) 4) 1) 1) 1 : Int))
    have Q11 := Q10.kept s11c (by simp; omega)
    have R11 := R10.kept s11c (by simp)
    have G11 := grown_new G10 s11c (fun j e => by cases e; omega)
    clear Q10 M10 G10 R10 s11c
    go_upto_region 19 with fail
    generalize W10.setCell ⟨q + 1 + 1, 7, none⟩ (.int .i64 (nX (nN (nN (nN (nN (nN (s, 0) 1) 1) 4) 1) 1) 1 : Int)) = W11 at *
    clear z11 kc11 hw11
    have hXX : Hid (rR9 (s, 0) = ⟨(nX (s, 0) 1 : Int), zV, (nX (nN (nN (s, 0) 1) 1) 4 : Int), (nX (nN (nN (nN (s, 0) 1) 1) 4) 1 : Int), (nX (nN (nN (nN (nN (s, 0) 1) 1) 4) 1) 1 : Int), (nX (nN (nN (nN (nN (nN (s, 0) 1) 1) 4) 1) 1) 1 : Int)⟩) := by show _ = _; rw [HX.out, HVnh.out, HVh.out]; rfl
    obtain ⟨X, HXX⟩ : ∃ X, Hid (rR9 (s, 0) = X) := ⟨_, rfl⟩
    rw [HXX.out] at hXX Hyes Hno
    have M : Rb 33 W11 (q + 1 + 1) X := by rw [hXX.out]; exact M11
    have HE : Hid (nN (nN (nN (nN (nN (nN (s, 0) 1) 1) 4) 1) 1) 1 = endR (rVn (nN (s, 0) 1))) := by show _ = _; rw [HVnh.out]; rfl
    have R : Rz W11 (q + 1) s (endR (rVn (nN (s, 0) 1))) := by rw [← HE.out]; exact R11
    clear HVh HVnh HX HXX hXX HE M11 R11
    generalize endR (rVn (nN (s, 0) 1)) = te at *
    have hdn := rzdone_any _ s te W11 R
    have hrt := fun W => rright17_any X W
    have Q := Q11
    have G := G11
    obtain ⟨m0, m1, m2, m3, m4, m5, m6, m7⟩ := M.cs
    obtain ⟨y0, y1, y2, y3, y4, y5, y6, y7⟩ := Q.cs
    have f0 := Q.fz 0; have f1 := Q.fz 1; have f2 := Q.fz 2; have f3 := Q.fz 3; have f4 := Q.fz 4; have f5 := Q.fz 5; have f6 := Q.fz 6; have f7 := Q.fz 7
    dsimp only [zR, zV] at y0 y1 y2 y3 y4 y5 y6 y7
    unfold Rc9.val at hrt
    by_cases hok : FF = true
    · by_cases hd : doneE te.1 te.2 = 0
      · rw [hd] at hdn
        cases hr : okR X with
        | true =>
          have HT := hide (Hyes.out (by rw [HF.out]; exact hok) hd hr)
          rw [hr] at hrt
          subst hok
          rw [HFF.out]
          clear hd hr
          go_wp2_with (first
            | (go_at_call 32; refine hdn.mono ?_; rintro e wd ⟨rfl, gd⟩; have Md := M.kept gd (by simp); have Qd := Q.kept gd (by simp); have Gd := grown_up G gd; obtain ⟨m0, m1, m2, m3, m4, m5, m6, m7⟩ := Md.cs; clear y0 y1 y2 y3 y4 y5 y6 y7 f0 f1 f2 f3 f4 f5 f6 f7)
            | (go_at_call 37; refine (hrt _).mono ?_; rintro e wr ⟨rfl, gr⟩; have Me := Md.kept gr (by simp); have Qe := Qd.kept gr (by simp); have Ge := grown_up Gd gr; obtain ⟨m0, m1, m2, m3, m4, m5, m6, m7⟩ := Me.cs; obtain ⟨y0, y1, y2, y3, y4, y5, y6, y7⟩ := Qe.cs; have f0 := Qe.fz 0; have f1 := Qe.fz 1; have f2 := Qe.fz 2; have f3 := Qe.fz 3; have f4 := Qe.fz 4; have f5 := Qe.fz 5; have f6 := Qe.fz 6; have f7 := Qe.fz 7; dsimp only [zR, zV] at y0 y1 y2 y3 y4 y5 y6 y7))
          have hh := zend17 (b := 0) X Qe Ge (by omega)
          go_wp2_with fail
          refine bodyPost_ret (results_rrb2 rfl _ q _ X (.int .i64 0) rfl rfl hh.1) rfl ?_
          exact ⟨X, 0, rfl, HT.out, hh.2⟩
        | false =>
          have HT := hide (Hno.out (fun h => by rw [hr] at h; cases h.2.2))
          rw [hr] at hrt
          subst hok
          rw [HFF.out]
          clear hd hr
          go_wp2_with (first
            | (go_at_call 32; refine hdn.mono ?_; rintro e wd ⟨rfl, gd⟩; have Md := M.kept gd (by simp); have Qd := Q.kept gd (by simp); have Gd := grown_up G gd; obtain ⟨m0, m1, m2, m3, m4, m5, m6, m7⟩ := Md.cs; clear y0 y1 y2 y3 y4 y5 y6 y7 f0 f1 f2 f3 f4 f5 f6 f7)
            | (go_at_call 37; refine (hrt _).mono ?_; rintro e wr ⟨rfl, gr⟩; have Qe := Qd.kept gr (by simp); have Ge := grown_up Gd gr; obtain ⟨y0, y1, y2, y3, y4, y5, y6, y7⟩ := Qe.cs; have f0 := Qe.fz 0; have f1 := Qe.fz 1; have f2 := Qe.fz 2; have f3 := Qe.fz 3; have f4 := Qe.fz 4; have f5 := Qe.fz 5; have f6 := Qe.fz 6; have f7 := Qe.fz 7; dsimp only [zR, zV] at y0 y1 y2 y3 y4 y5 y6 y7))
          have hh := zend17 (b := 0) zR Qe Ge (by omega)
          go_wp2_with fail
          refine bodyPost_ret (results_rrb2 rfl _ q _ zR (.int .i64 10) rfl rfl hh.1) rfl ?_
          exact ⟨zR, 10, rfl, HT.out, hh.2⟩
      · have HT := hide (Hno.out (fun h => hd h.2.1))
        generalize doneE te.1 te.2 = d at *
        have hd' : (d != 0) = true := by simp [hd]
        subst hok
        rw [HFF.out]
        clear hd
        go_wp2_with (go_at_call 32; refine hdn.mono ?_; rintro e wd ⟨rfl, gd⟩; have Qe := Q.kept gd (by simp); have Ge := grown_up G gd; obtain ⟨y0, y1, y2, y3, y4, y5, y6, y7⟩ := Qe.cs; have f0 := Qe.fz 0; have f1 := Qe.fz 1; have f2 := Qe.fz 2; have f3 := Qe.fz 3; have f4 := Qe.fz 4; have f5 := Qe.fz 5; have f6 := Qe.fz 6; have f7 := Qe.fz 7; dsimp only [zR, zV] at y0 y1 y2 y3 y4 y5 y6 y7)
        have hh := zend17 (b := 0) zR Qe Ge (by omega)
        go_wp2_with fail
        refine bodyPost_ret (results_rrb2 rfl _ q _ zR (.int .i64 10) rfl rfl hh.1) rfl ?_
        exact ⟨zR, 10, rfl, HT.out, hh.2⟩
    · have HT := hide (Hno.out (fun h => hok (by have := h.1; rw [HF.out] at this; exact this)))
      have hok' : FF = false := by simpa using hok
      subst hok'
      rw [HFF.out]
      clear hok
      have hh := zend17 (b := 0) zR Q G (by omega)
      go_wp2_with fail
      refine bodyPost_ret (results_rrb2 rfl _ q _ zR (.int .i64 10) rfl rfl hh.1) rfl ?_
      exact ⟨zR, 10, rfl, HT.out, hh.2⟩
end Go.Proofs.Ythopmlgfklhagaa
