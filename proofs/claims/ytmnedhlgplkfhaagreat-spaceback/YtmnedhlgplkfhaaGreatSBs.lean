/- Contract, over the turned program: a step of both pieces of work answers the same. Conditions: those that each theorem states. -/
import Derived.Test.YtmnedhlgplkfhaaGreatSBx
namespace Go.Proofs.YtmnedhlgplkfhaaGreat
open Go.RowKit
set_option linter.unusedVariables false

/-- What a step writes, and sets as head. -/
def Sop.txt (o : Sop) : ByteArray := if o.b = 1 then fillN 1 9 else fillN o.b 256
def Sop.hd (o : Sop) : ByteArray := fillN o.b (min (max o.n 0) 300).toNat
/-- What a step makes of a piece of work, and of the pages. -/
def Sw.does (S : Sw) (o : Sop) : Sw := if o.kind = 0 then S else if o.kind = 1 then S.write o.n o.txt else if o.kind = 2 then S.take (fillB 0) else if o.kind = 3 then S.drop o.n else if o.kind = 4 then S.setHead o.hd else if o.kind = 5 then S.save else if o.kind = 6 then S.back o.n else S.commit
def Sw.doesQ (S : Sw) (o : Sop) (Q : List ByteArray) : List ByteArray := if o.kind = 7 then S.pages Q else Q
theorem min_bv (b : UInt8) : (((b.toNat : Nat) : Int) == 1) = decide (b = 1) := by
  by_cases h : b = 1
  · subst h; rfl
  · have h2 : b.toNat ≠ 1 := fun e => h (UInt8.toNat_inj.1 e)
    have h3 : ((b.toNat : Nat) : Int) ≠ 1 := by omega
    rw [decide_eq_false h]
    simpa using h3
set_option maxRecDepth 100000 in
set_option maxHeartbeats 1600000 in
theorem bstep0 {w : World} {own : Nat → Nat} {x : Nat} {q : Cq} {B tW tR : Nat} {S : Sw} {Q : List ByteArray} {r rr : Nat} (o : Sop) (H : Bp w own x q B tW tR S S Q Q r rr) (h1 : tW ≤ 1000) (h2 : tR ≤ 900) (hkd : o.kind = 0) :
    Calls Tryz.prog 11 #[.pointer (some ⟨x, 0, none⟩), .agg o.cells] w fun e w' => e = .returned (.bool true) ∧ Bx w own w' x q B (tW + 1) (tR + 1) (S.does o) (S.does o) (S.doesQ o Q) (S.doesQ o Q) r rr := by
  have hki := skind_any o (w.alloc (.cells o.cells 31))
  have cell := new_cell w o.cells 31
  have ka := Kp.alloc none' w (.cells o.cells 31)
  have HB1 : Hid (Bx (w.alloc (.cells o.cells 31)) (grow own w.heap.size 0) (w.alloc (.cells o.cells 31)) x q B tW tR S S Q Q r rr) := Bx.refl (H.keep ka)
  have HEND : Hid (∀ (w' : World) (S' : Sw) (Q' : List ByteArray), Bx (w.alloc (.cells o.cells 31)) (grow own w.heap.size 0) w' x q B (tW + 1) (tR + 1) S' S' Q' Q' r rr → Bx w own w' x q B (tW + 1) (tR + 1) S' S' Q' Q' r rr) := fun w' S' Q' h => Bx.from_ (fun k hk => grow_old hk) (ka.mono (fun _ _ h => h.elim)) h
  have HO0 : Hid ((grow own w.heap.size 0) w.heap.size = 0) := grow_new (Nat.le_refl _)
  rw [hkd] at hki
  unfold Sw.does Sw.doesQ
  rw [hkd]
  obtain ⟨k0, n, b⟩ := o
  unfold Sop.cells at hki cell HB1 HEND ⊢
  dsimp only at hki cell HB1 HEND ⊢
  have v1 := cell 1 _ rfl
  have v2 := cell 2 _ rfl
  obtain ⟨bv, HBV⟩ : ∃ bv, Hid (w.heap.size = bv) := ⟨_, rfl⟩
  obtain ⟨w1, HW1⟩ : ∃ w1, Hid (w.alloc (.cells #[.int .i64 k0, .int .i64 n, .int .u8 (b.toNat : Int)] 31) = w1) := ⟨_, rfl⟩
  rw [HW1.out] at hki HB1 HEND v1 v2
  rw [HBV.out] at v1 v2 HO0 HB1 HEND
  obtain ⟨own1, HOW⟩ : ∃ own1, Hid (grow own bv 0 = own1) := ⟨_, rfl⟩
  rw [HOW.out] at HB1 HEND HO0
  have HST : Hid (∀ (W : World) (tW tR : Nat) (SW SR : Sw) (QC QP : List ByteArray), Bx w1 own1 W x q B tW tR SW SR QC QP r rr → W.cell? ⟨x, 1, none⟩ = some (.pointer (some ⟨r, 0, none⟩)) ∧ W.cell? ⟨x, 3, none⟩ = some (.pointer (some ⟨rr, 0, none⟩)) ∧ W.cell? ⟨bv, 1, none⟩ = some (.int .i64 n)) := fun W _ _ _ _ _ _ h => ⟨h.cells.2.1, h.cells.2.2, h.stay HO0.out v1⟩
  have HV2 := hide v2
  have HS2 : Hid (∀ (W : World) (tW tR : Nat) (SW SR : Sw) (QC QP : List ByteArray), Bx w1 own1 W x q B tW tR SW SR QC QP r rr → W.cell? ⟨bv, 2, none⟩ = some (.int .u8 (b.toNat : Int))) := fun W _ _ _ _ _ _ h => h.stay HO0.out HV2.out
  have HKI := hide hki
  clear H cell ka hkd hki
  go_enter Tryz.func11, Tryz.ntmps11
  go_upto_region 1 with fail
  rw [HW1.out, HBV.out]
  have v0 : w1.cell? ⟨bv, 0, none⟩ = some (.int .i64 k0) := by
    rw [← HW1.out, ← HBV.out]
    exact new_cell w _ _ 0 _ rfl
  obtain ⟨X, HX⟩ : ∃ X, Hid ((S.read n).1 = X) := ⟨_, rfl⟩
  obtain ⟨E, HE⟩ : ∃ E, Hid ((S.read n).2 = E) := ⟨_, rfl⟩
  have HRD : Hid (∀ W : World, Bx w1 own1 W x q B tW tR S S Q Q r rr → Calls Tryz.prog 25 #[.pointer (some ⟨r, 0, none⟩), .int .i64 n] W fun e w' => e = .returned (.tuple #[.string X, .int .i64 E]) ∧ w' = W) := fun W h => by
    have := h.read n
    rw [HX.out, HE.out] at this
    exact this
  have HRR : Hid (∀ W : World, Bx w1 own1 W x q B tW tR S S Q Q r rr → Calls Tryz.prog 34 #[.pointer (some ⟨rr, 0, none⟩), .int .i64 n] W fun e w' => e = .returned (.tuple #[.string X, .int .i64 E]) ∧ w' = W) := fun W h => by
    have := h.rread n
    rw [HX.out, HE.out] at this
    exact this
  go_upto_region 3 with (first
    | (go_at_call 20; refine HKI.out.mono ?_; rintro e w2 ⟨rfl, hk2⟩)
    | fail)
  have hB2 := HB1.out.keep hk2
  have hBd := hB2.keep (Kp.drew none' w2)
  have T0 := HST.out w2.drew _ _ _ _ _ _ hBd
  go_region_held_law (fun W => W.cell? ⟨x, 1, none⟩ = some (.pointer (some ⟨r, 0, none⟩)) ∧ W.cell? ⟨x, 3, none⟩ = some (.pointer (some ⟨rr, 0, none⟩)) ∧ W.cell? ⟨bv, 1, none⟩ = some (.int .i64 n)) (first | assumption) (first
    | (go_at_call 25; refine (HRD.out _ hBd).mono ?_; rintro e w3 ⟨rfl, hw3⟩; obtain rfl := hw3.symm)
    | fail)
  go_upto_region 4 with fail
  have hBe := hBd.keep (Kp.drew none' w2.drew)
  have T1 := HST.out w2.drew.drew _ _ _ _ _ _ hBe
  go_region_held_law (fun W => W.cell? ⟨x, 1, none⟩ = some (.pointer (some ⟨r, 0, none⟩)) ∧ W.cell? ⟨x, 3, none⟩ = some (.pointer (some ⟨rr, 0, none⟩)) ∧ W.cell? ⟨bv, 1, none⟩ = some (.int .i64 n)) (first | assumption) (first
    | (go_at_call 34; refine (HRR.out _ hBe).mono ?_; rintro e w3 ⟨rfl, hw3⟩; obtain rfl := hw3.symm)
    | fail)
  have hxx : (X.toList == X.toList) = true := by simp
  have hee : (E == E) = true := by simp
  go_wp2
  go_ret
  exact ⟨rfl, HEND.out _ _ _ (hBe.more (Nat.le_succ _) (Nat.le_succ _))⟩
set_option maxRecDepth 100000 in
set_option maxHeartbeats 1600000 in
theorem bstep1 {w : World} {own : Nat → Nat} {x : Nat} {q : Cq} {B tW tR : Nat} {S : Sw} {Q : List ByteArray} {r rr : Nat} (o : Sop) (H : Bp w own x q B tW tR S S Q Q r rr) (h1 : tW ≤ 1000) (h2 : tR ≤ 900) (hkd : o.kind = 1) :
    Calls Tryz.prog 11 #[.pointer (some ⟨x, 0, none⟩), .agg o.cells] w fun e w' => e = .returned (.bool true) ∧ Bx w own w' x q B (tW + 1) (tR + 1) (S.does o) (S.does o) (S.doesQ o Q) (S.doesQ o Q) r rr := by
  have hki := skind_any o (w.alloc (.cells o.cells 31))
  have cell := new_cell w o.cells 31
  have ka := Kp.alloc none' w (.cells o.cells 31)
  have HB1 : Hid (Bx (w.alloc (.cells o.cells 31)) (grow own w.heap.size 0) (w.alloc (.cells o.cells 31)) x q B tW tR S S Q Q r rr) := Bx.refl (H.keep ka)
  have HEND : Hid (∀ (w' : World) (S' : Sw) (Q' : List ByteArray), Bx (w.alloc (.cells o.cells 31)) (grow own w.heap.size 0) w' x q B (tW + 1) (tR + 1) S' S' Q' Q' r rr → Bx w own w' x q B (tW + 1) (tR + 1) S' S' Q' Q' r rr) := fun w' S' Q' h => Bx.from_ (fun k hk => grow_old hk) (ka.mono (fun _ _ h => h.elim)) h
  have HO0 : Hid ((grow own w.heap.size 0) w.heap.size = 0) := grow_new (Nat.le_refl _)
  rw [hkd] at hki
  unfold Sw.does Sw.doesQ
  rw [hkd]
  obtain ⟨k0, n, b⟩ := o
  unfold Sop.cells at hki cell HB1 HEND ⊢
  dsimp only at hki cell HB1 HEND ⊢
  have v1 := cell 1 _ rfl
  have v2 := cell 2 _ rfl
  obtain ⟨bv, HBV⟩ : ∃ bv, Hid (w.heap.size = bv) := ⟨_, rfl⟩
  obtain ⟨w1, HW1⟩ : ∃ w1, Hid (w.alloc (.cells #[.int .i64 k0, .int .i64 n, .int .u8 (b.toNat : Int)] 31) = w1) := ⟨_, rfl⟩
  rw [HW1.out] at hki HB1 HEND v1 v2
  rw [HBV.out] at v1 v2 HO0 HB1 HEND
  obtain ⟨own1, HOW⟩ : ∃ own1, Hid (grow own bv 0 = own1) := ⟨_, rfl⟩
  rw [HOW.out] at HB1 HEND HO0
  have HST : Hid (∀ (W : World) (tW tR : Nat) (SW SR : Sw) (QC QP : List ByteArray), Bx w1 own1 W x q B tW tR SW SR QC QP r rr → W.cell? ⟨x, 1, none⟩ = some (.pointer (some ⟨r, 0, none⟩)) ∧ W.cell? ⟨x, 3, none⟩ = some (.pointer (some ⟨rr, 0, none⟩)) ∧ W.cell? ⟨bv, 1, none⟩ = some (.int .i64 n)) := fun W _ _ _ _ _ _ h => ⟨h.cells.2.1, h.cells.2.2, h.stay HO0.out v1⟩
  have HV2 := hide v2
  have HS2 : Hid (∀ (W : World) (tW tR : Nat) (SW SR : Sw) (QC QP : List ByteArray), Bx w1 own1 W x q B tW tR SW SR QC QP r rr → W.cell? ⟨bv, 2, none⟩ = some (.int .u8 (b.toNat : Int))) := fun W _ _ _ _ _ _ h => h.stay HO0.out HV2.out
  have HKI := hide hki
  clear H cell ka hkd hki
  go_enter Tryz.func11, Tryz.ntmps11
  go_upto_region 1 with fail
  rw [HW1.out, HBV.out]
  have v0 : w1.cell? ⟨bv, 0, none⟩ = some (.int .i64 k0) := by
    rw [← HW1.out, ← HBV.out]
    exact new_cell w _ _ 0 _ rfl
  have hbb := min_bv b
  have HFI : Hid (∀ (W : World) (m : Nat), m ≤ 1000 → Calls Tryz.prog 35 #[.int .u8 (b.toNat : Int), .int .i64 (m : Int)] W fun e w' => e = .returned (.string (fillN b m)) ∧ Kp none' W w') := fun W m hm => sfill_any b m W hm
  have HF256 : Hid (∀ (W : World), Calls Tryz.prog 35 #[.int .u8 (b.toNat : Int), .int .i64 256] W fun e w' => e = .returned (.string (fillN b 256)) ∧ Kp none' W w') := fun W => HFI.out W 256 (by omega)
  have HF9 : Hid (∀ (W : World), Calls Tryz.prog 35 #[.int .u8 (b.toNat : Int), .int .i64 9] W fun e w' => e = .returned (.string (fillN b 9)) ∧ Kp none' W w') := fun W => HFI.out W 9 (by omega)
  by_cases hb1 : b = 1
  · have HTX : Hid (Sop.txt ⟨k0, n, b⟩ = fillN b 9) := by show _ = _; unfold Sop.txt; rw [if_pos hb1, hb1]
    have hys : (fillN b 9).size ≤ 1000 := by rw [fillN_size]; omega
    obtain ⟨y, HY⟩ : ∃ y, Hid (fillN b 9 = y) := ⟨_, rfl⟩
    obtain ⟨y2, HY2⟩ : ∃ y2, Hid (fillN b 256 = y2) := ⟨_, rfl⟩
    rw [HY.out] at hys HF9 HTX
    rw [HY2.out] at HF256
    rw [decide_eq_true hb1] at hbb
    clear hb1
    obtain ⟨E, HE⟩ : ∃ E, Hid (S.writeE n y = E) := ⟨_, rfl⟩
    have HA : Hid (∀ W : World, Bx w1 own1 W x q B tW tR S S Q Q r rr → Calls Tryz.prog 28 #[.pointer (some ⟨r, 0, none⟩), .int .i64 n, .string y] W fun e w' => e = .returned (.int .i64 E) ∧ Bx w1 own1 w' x q B (tW + 1) tR (S.write n y) S Q Q r rr) := fun W h => by
      have := h.write h1 n y hys
      rw [HE.out] at this
      exact this
    have HB : Hid (∀ W : World, Bx w1 own1 W x q B (tW + 1) tR (S.write n y) S Q Q r rr → Calls Tryz.prog 36 #[.pointer (some ⟨rr, 0, none⟩), .int .i64 n, .string y] W fun e w' => e = .returned (.int .i64 E) ∧ Bx w1 own1 w' x q B (tW + 1) (tR + 1) (S.write n y) (S.write n y) Q Q r rr) := fun W h => by
      have := h.rwrite h2 n y hys
      rw [HE.out] at this
      exact this
    go_upto_region 7 with (first
      | (go_at_call 20; refine HKI.out.mono ?_; rintro e w2 ⟨rfl, hk2⟩)
      | fail)
    have hB2 := HB1.out.keep hk2
    have hv2 := HS2.out w2 _ _ _ _ _ _ hB2
    go_upto_region 8 with (first
      | (go_at_call 35; refine (HF256.out _).mono ?_; rintro e w3 ⟨rfl, hk3⟩)
      | fail)
    have hB3 := hB2.keep hk3
    have hv3 := HS2.out w3 _ _ _ _ _ _ hB3
    go_upto_region 10 with (first
      | (go_at_call 35; refine (HF9.out _).mono ?_; rintro e w6 ⟨rfl, hk6⟩)
      | fail)
    have hB6 := hB3.keep hk6
    have hBd := hB6.keep (Kp.drew none' w6)
    have T0 := HST.out w6.drew _ _ _ _ _ _ hBd
    go_region_held_law (fun W => W.cell? ⟨x, 1, none⟩ = some (.pointer (some ⟨r, 0, none⟩)) ∧ W.cell? ⟨x, 3, none⟩ = some (.pointer (some ⟨rr, 0, none⟩)) ∧ W.cell? ⟨bv, 1, none⟩ = some (.int .i64 n)) (first | assumption) (first
      | (go_at_call 28; refine (HA.out _ hBd).mono ?_; rintro e w4 ⟨rfl, hB4⟩; have T4 := HST.out w4 _ _ _ _ _ _ hB4)
      | (go_at_call 36; refine (HB.out _ hB4).mono ?_; rintro e w5 ⟨rfl, hB5⟩; have T5 := HST.out w5 _ _ _ _ _ _ hB5)
      | fail)
    have hee : (E == E) = true := by simp
    all_goals (
      go_wp2
      go_ret
      refine ⟨rfl, ?_⟩
      rw [HTX.out]
      exact HEND.out _ _ _ hB5)
  · have HTX : Hid (Sop.txt ⟨k0, n, b⟩ = fillN b 256) := by show _ = _; unfold Sop.txt; rw [if_neg hb1]
    have hys : (fillN b 256).size ≤ 1000 := by rw [fillN_size]; omega
    obtain ⟨y, HY⟩ : ∃ y, Hid (fillN b 256 = y) := ⟨_, rfl⟩
    rw [HY.out] at hys HF256 HTX
    rw [decide_eq_false hb1] at hbb
    clear hb1
    obtain ⟨E, HE⟩ : ∃ E, Hid (S.writeE n y = E) := ⟨_, rfl⟩
    have HA : Hid (∀ W : World, Bx w1 own1 W x q B tW tR S S Q Q r rr → Calls Tryz.prog 28 #[.pointer (some ⟨r, 0, none⟩), .int .i64 n, .string y] W fun e w' => e = .returned (.int .i64 E) ∧ Bx w1 own1 w' x q B (tW + 1) tR (S.write n y) S Q Q r rr) := fun W h => by
      have := h.write h1 n y hys
      rw [HE.out] at this
      exact this
    have HB : Hid (∀ W : World, Bx w1 own1 W x q B (tW + 1) tR (S.write n y) S Q Q r rr → Calls Tryz.prog 36 #[.pointer (some ⟨rr, 0, none⟩), .int .i64 n, .string y] W fun e w' => e = .returned (.int .i64 E) ∧ Bx w1 own1 w' x q B (tW + 1) (tR + 1) (S.write n y) (S.write n y) Q Q r rr) := fun W h => by
      have := h.rwrite h2 n y hys
      rw [HE.out] at this
      exact this
    go_upto_region 7 with (first
      | (go_at_call 20; refine HKI.out.mono ?_; rintro e w2 ⟨rfl, hk2⟩)
      | fail)
    have hB2 := HB1.out.keep hk2
    have hv2 := HS2.out w2 _ _ _ _ _ _ hB2
    go_upto_region 8 with (first
      | (go_at_call 35; refine (HF256.out _).mono ?_; rintro e w3 ⟨rfl, hk3⟩)
      | fail)
    have hB3 := hB2.keep hk3
    have hv3 := HS2.out w3 _ _ _ _ _ _ hB3
    go_upto_region 10 with fail
    have hBd := hB3.keep (Kp.drew none' w3)
    have T0 := HST.out w3.drew _ _ _ _ _ _ hBd
    go_region_held_law (fun W => W.cell? ⟨x, 1, none⟩ = some (.pointer (some ⟨r, 0, none⟩)) ∧ W.cell? ⟨x, 3, none⟩ = some (.pointer (some ⟨rr, 0, none⟩)) ∧ W.cell? ⟨bv, 1, none⟩ = some (.int .i64 n)) (first | assumption) (first
      | (go_at_call 28; refine (HA.out _ hBd).mono ?_; rintro e w4 ⟨rfl, hB4⟩; have T4 := HST.out w4 _ _ _ _ _ _ hB4)
      | (go_at_call 36; refine (HB.out _ hB4).mono ?_; rintro e w5 ⟨rfl, hB5⟩; have T5 := HST.out w5 _ _ _ _ _ _ hB5)
      | fail)
    have hee : (E == E) = true := by simp
    all_goals (
      go_wp2
      go_ret
      refine ⟨rfl, ?_⟩
      rw [HTX.out]
      exact HEND.out _ _ _ hB5)
set_option maxRecDepth 100000 in
set_option maxHeartbeats 1600000 in
theorem bstep2 {w : World} {own : Nat → Nat} {x : Nat} {q : Cq} {B tW tR : Nat} {S : Sw} {Q : List ByteArray} {r rr : Nat} (o : Sop) (H : Bp w own x q B tW tR S S Q Q r rr) (h1 : tW ≤ 1000) (h2 : tR ≤ 900) (hkd : o.kind = 2) :
    Calls Tryz.prog 11 #[.pointer (some ⟨x, 0, none⟩), .agg o.cells] w fun e w' => e = .returned (.bool true) ∧ Bx w own w' x q B (tW + 1) (tR + 1) (S.does o) (S.does o) (S.doesQ o Q) (S.doesQ o Q) r rr := by
  have hki := skind_any o (w.alloc (.cells o.cells 31))
  have cell := new_cell w o.cells 31
  have ka := Kp.alloc none' w (.cells o.cells 31)
  have HB1 : Hid (Bx (w.alloc (.cells o.cells 31)) (grow own w.heap.size 0) (w.alloc (.cells o.cells 31)) x q B tW tR S S Q Q r rr) := Bx.refl (H.keep ka)
  have HEND : Hid (∀ (w' : World) (S' : Sw) (Q' : List ByteArray), Bx (w.alloc (.cells o.cells 31)) (grow own w.heap.size 0) w' x q B (tW + 1) (tR + 1) S' S' Q' Q' r rr → Bx w own w' x q B (tW + 1) (tR + 1) S' S' Q' Q' r rr) := fun w' S' Q' h => Bx.from_ (fun k hk => grow_old hk) (ka.mono (fun _ _ h => h.elim)) h
  have HO0 : Hid ((grow own w.heap.size 0) w.heap.size = 0) := grow_new (Nat.le_refl _)
  rw [hkd] at hki
  unfold Sw.does Sw.doesQ
  rw [hkd]
  obtain ⟨k0, n, b⟩ := o
  unfold Sop.cells at hki cell HB1 HEND ⊢
  dsimp only at hki cell HB1 HEND ⊢
  have v1 := cell 1 _ rfl
  have v2 := cell 2 _ rfl
  obtain ⟨bv, HBV⟩ : ∃ bv, Hid (w.heap.size = bv) := ⟨_, rfl⟩
  obtain ⟨w1, HW1⟩ : ∃ w1, Hid (w.alloc (.cells #[.int .i64 k0, .int .i64 n, .int .u8 (b.toNat : Int)] 31) = w1) := ⟨_, rfl⟩
  rw [HW1.out] at hki HB1 HEND v1 v2
  rw [HBV.out] at v1 v2 HO0 HB1 HEND
  obtain ⟨own1, HOW⟩ : ∃ own1, Hid (grow own bv 0 = own1) := ⟨_, rfl⟩
  rw [HOW.out] at HB1 HEND HO0
  have HST : Hid (∀ (W : World) (tW tR : Nat) (SW SR : Sw) (QC QP : List ByteArray), Bx w1 own1 W x q B tW tR SW SR QC QP r rr → W.cell? ⟨x, 1, none⟩ = some (.pointer (some ⟨r, 0, none⟩)) ∧ W.cell? ⟨x, 3, none⟩ = some (.pointer (some ⟨rr, 0, none⟩)) ∧ W.cell? ⟨bv, 1, none⟩ = some (.int .i64 n)) := fun W _ _ _ _ _ _ h => ⟨h.cells.2.1, h.cells.2.2, h.stay HO0.out v1⟩
  have HV2 := hide v2
  have HS2 : Hid (∀ (W : World) (tW tR : Nat) (SW SR : Sw) (QC QP : List ByteArray), Bx w1 own1 W x q B tW tR SW SR QC QP r rr → W.cell? ⟨bv, 2, none⟩ = some (.int .u8 (b.toNat : Int))) := fun W _ _ _ _ _ _ h => h.stay HO0.out HV2.out
  have HKI := hide hki
  clear H cell ka hkd hki
  go_enter Tryz.func11, Tryz.ntmps11
  go_upto_region 1 with fail
  rw [HW1.out, HBV.out]
  have v0 : w1.cell? ⟨bv, 0, none⟩ = some (.int .i64 k0) := by
    rw [← HW1.out, ← HBV.out]
    exact new_cell w _ _ 0 _ rfl
  obtain ⟨X, HX⟩ : ∃ X, Hid (S.takeE.1 = X) := ⟨_, rfl⟩
  obtain ⟨E, HE⟩ : ∃ E, Hid (S.takeE.2 = E) := ⟨_, rfl⟩
  have HA : Hid (∀ W : World, Bx w1 own1 W x q B tW tR S S Q Q r rr → Calls Tryz.prog 27 #[.pointer (some ⟨r, 0, none⟩)] W fun e w' => e = .returned (.tuple #[.int .i64 X, .int .i64 E]) ∧ Bx w1 own1 w' x q B (tW + 1) tR (S.take (fillB 0)) S Q Q r rr) := fun W h => by
    have := h.take h1
    rw [HX.out, HE.out] at this
    exact this
  have HB : Hid (∀ W : World, Bx w1 own1 W x q B (tW + 1) tR (S.take (fillB 0)) S Q Q r rr → Calls Tryz.prog 37 #[.pointer (some ⟨rr, 0, none⟩)] W fun e w' => e = .returned (.tuple #[.int .i64 X, .int .i64 E]) ∧ Bx w1 own1 w' x q B (tW + 1) (tR + 1) (S.take (fillB 0)) (S.take (fillB 0)) Q Q r rr) := fun W h => by
    have := h.rtake h2
    rw [HX.out, HE.out] at this
    exact this
  go_upto_region 12 with (first
    | (go_at_call 20; refine HKI.out.mono ?_; rintro e w2 ⟨rfl, hk2⟩)
    | fail)
  have hB2 := HB1.out.keep hk2
  have c2 := hB2.cells
  have c21 := c2.2.1
  clear c2
  go_upto_region 13 with (first
    | (go_at_call 27; refine (HA.out _ hB2).mono ?_; rintro e w4 ⟨rfl, hB4⟩)
    | fail)
  have c4 := hB4.cells
  have c43 := c4.2.2
  clear c4
  have hxx : (X == X) = true := by simp
  have hee : (E == E) = true := by simp
  go_wp2_with (first
    | (go_at_call 37; refine (HB.out _ hB4).mono ?_; rintro e w5 ⟨rfl, hB5⟩)
    | fail)
  go_ret
  exact ⟨rfl, HEND.out _ _ _ hB5⟩
set_option maxRecDepth 100000 in
set_option maxHeartbeats 1600000 in
theorem bstep3 {w : World} {own : Nat → Nat} {x : Nat} {q : Cq} {B tW tR : Nat} {S : Sw} {Q : List ByteArray} {r rr : Nat} (o : Sop) (H : Bp w own x q B tW tR S S Q Q r rr) (h1 : tW ≤ 1000) (h2 : tR ≤ 900) (hkd : o.kind = 3) :
    Calls Tryz.prog 11 #[.pointer (some ⟨x, 0, none⟩), .agg o.cells] w fun e w' => e = .returned (.bool true) ∧ Bx w own w' x q B (tW + 1) (tR + 1) (S.does o) (S.does o) (S.doesQ o Q) (S.doesQ o Q) r rr := by
  have hki := skind_any o (w.alloc (.cells o.cells 31))
  have cell := new_cell w o.cells 31
  have ka := Kp.alloc none' w (.cells o.cells 31)
  have HB1 : Hid (Bx (w.alloc (.cells o.cells 31)) (grow own w.heap.size 0) (w.alloc (.cells o.cells 31)) x q B tW tR S S Q Q r rr) := Bx.refl (H.keep ka)
  have HEND : Hid (∀ (w' : World) (S' : Sw) (Q' : List ByteArray), Bx (w.alloc (.cells o.cells 31)) (grow own w.heap.size 0) w' x q B (tW + 1) (tR + 1) S' S' Q' Q' r rr → Bx w own w' x q B (tW + 1) (tR + 1) S' S' Q' Q' r rr) := fun w' S' Q' h => Bx.from_ (fun k hk => grow_old hk) (ka.mono (fun _ _ h => h.elim)) h
  have HO0 : Hid ((grow own w.heap.size 0) w.heap.size = 0) := grow_new (Nat.le_refl _)
  rw [hkd] at hki
  unfold Sw.does Sw.doesQ
  rw [hkd]
  obtain ⟨k0, n, b⟩ := o
  unfold Sop.cells at hki cell HB1 HEND ⊢
  dsimp only at hki cell HB1 HEND ⊢
  have v1 := cell 1 _ rfl
  have v2 := cell 2 _ rfl
  obtain ⟨bv, HBV⟩ : ∃ bv, Hid (w.heap.size = bv) := ⟨_, rfl⟩
  obtain ⟨w1, HW1⟩ : ∃ w1, Hid (w.alloc (.cells #[.int .i64 k0, .int .i64 n, .int .u8 (b.toNat : Int)] 31) = w1) := ⟨_, rfl⟩
  rw [HW1.out] at hki HB1 HEND v1 v2
  rw [HBV.out] at v1 v2 HO0 HB1 HEND
  obtain ⟨own1, HOW⟩ : ∃ own1, Hid (grow own bv 0 = own1) := ⟨_, rfl⟩
  rw [HOW.out] at HB1 HEND HO0
  have HST : Hid (∀ (W : World) (tW tR : Nat) (SW SR : Sw) (QC QP : List ByteArray), Bx w1 own1 W x q B tW tR SW SR QC QP r rr → W.cell? ⟨x, 1, none⟩ = some (.pointer (some ⟨r, 0, none⟩)) ∧ W.cell? ⟨x, 3, none⟩ = some (.pointer (some ⟨rr, 0, none⟩)) ∧ W.cell? ⟨bv, 1, none⟩ = some (.int .i64 n)) := fun W _ _ _ _ _ _ h => ⟨h.cells.2.1, h.cells.2.2, h.stay HO0.out v1⟩
  have HV2 := hide v2
  have HS2 : Hid (∀ (W : World) (tW tR : Nat) (SW SR : Sw) (QC QP : List ByteArray), Bx w1 own1 W x q B tW tR SW SR QC QP r rr → W.cell? ⟨bv, 2, none⟩ = some (.int .u8 (b.toNat : Int))) := fun W _ _ _ _ _ _ h => h.stay HO0.out HV2.out
  have HKI := hide hki
  clear H cell ka hkd hki
  go_enter Tryz.func11, Tryz.ntmps11
  go_upto_region 1 with fail
  rw [HW1.out, HBV.out]
  have v0 : w1.cell? ⟨bv, 0, none⟩ = some (.int .i64 k0) := by
    rw [← HW1.out, ← HBV.out]
    exact new_cell w _ _ 0 _ rfl
  obtain ⟨E, HE⟩ : ∃ E, Hid (S.dropE n = E) := ⟨_, rfl⟩
  have HA : Hid (∀ W : World, Bx w1 own1 W x q B tW tR S S Q Q r rr → Calls Tryz.prog 29 #[.pointer (some ⟨r, 0, none⟩), .int .i64 n] W fun e w' => e = .returned (.int .i64 E) ∧ Bx w1 own1 w' x q B (tW + 1) tR (S.drop n) S Q Q r rr) := fun W h => by
    have := h.drop h1 n
    rw [HE.out] at this
    exact this
  have HB : Hid (∀ W : World, Bx w1 own1 W x q B (tW + 1) tR (S.drop n) S Q Q r rr → Calls Tryz.prog 38 #[.pointer (some ⟨rr, 0, none⟩), .int .i64 n] W fun e w' => e = .returned (.int .i64 E) ∧ Bx w1 own1 w' x q B (tW + 1) (tR + 1) (S.drop n) (S.drop n) Q Q r rr) := fun W h => by
    have := h.rdrop h2 n
    rw [HE.out] at this
    exact this
  go_upto_region 16 with (first
    | (go_at_call 20; refine HKI.out.mono ?_; rintro e w2 ⟨rfl, hk2⟩)
    | fail)
  have hB2 := HB1.out.keep hk2
  have hBd := hB2.keep (Kp.drew none' w2)
  have T0 := HST.out w2.drew _ _ _ _ _ _ hBd
  go_region_held_law (fun W => W.cell? ⟨x, 1, none⟩ = some (.pointer (some ⟨r, 0, none⟩)) ∧ W.cell? ⟨x, 3, none⟩ = some (.pointer (some ⟨rr, 0, none⟩)) ∧ W.cell? ⟨bv, 1, none⟩ = some (.int .i64 n)) (first | assumption) (first
    | (go_at_call 29; refine (HA.out _ hBd).mono ?_; rintro e w4 ⟨rfl, hB4⟩; have T4 := HST.out w4 _ _ _ _ _ _ hB4)
    | (go_at_call 38; refine (HB.out _ hB4).mono ?_; rintro e w5 ⟨rfl, hB5⟩; have T5 := HST.out w5 _ _ _ _ _ _ hB5)
    | fail)
  have hee : (E == E) = true := by simp
  all_goals (
    go_wp2
    go_ret
    refine ⟨rfl, ?_⟩
    exact HEND.out _ _ _ hB5)
set_option maxRecDepth 100000 in
set_option maxHeartbeats 1600000 in
theorem bstep4 {w : World} {own : Nat → Nat} {x : Nat} {q : Cq} {B tW tR : Nat} {S : Sw} {Q : List ByteArray} {r rr : Nat} (o : Sop) (H : Bp w own x q B tW tR S S Q Q r rr) (h1 : tW ≤ 1000) (h2 : tR ≤ 900) (hkd : o.kind = 4) :
    Calls Tryz.prog 11 #[.pointer (some ⟨x, 0, none⟩), .agg o.cells] w fun e w' => e = .returned (.bool true) ∧ Bx w own w' x q B (tW + 1) (tR + 1) (S.does o) (S.does o) (S.doesQ o Q) (S.doesQ o Q) r rr := by
  have hki := skind_any o (w.alloc (.cells o.cells 31))
  have cell := new_cell w o.cells 31
  have ka := Kp.alloc none' w (.cells o.cells 31)
  have HB1 : Hid (Bx (w.alloc (.cells o.cells 31)) (grow own w.heap.size 0) (w.alloc (.cells o.cells 31)) x q B tW tR S S Q Q r rr) := Bx.refl (H.keep ka)
  have HEND : Hid (∀ (w' : World) (S' : Sw) (Q' : List ByteArray), Bx (w.alloc (.cells o.cells 31)) (grow own w.heap.size 0) w' x q B (tW + 1) (tR + 1) S' S' Q' Q' r rr → Bx w own w' x q B (tW + 1) (tR + 1) S' S' Q' Q' r rr) := fun w' S' Q' h => Bx.from_ (fun k hk => grow_old hk) (ka.mono (fun _ _ h => h.elim)) h
  have HO0 : Hid ((grow own w.heap.size 0) w.heap.size = 0) := grow_new (Nat.le_refl _)
  rw [hkd] at hki
  unfold Sw.does Sw.doesQ
  rw [hkd]
  obtain ⟨k0, n, b⟩ := o
  unfold Sop.cells at hki cell HB1 HEND ⊢
  dsimp only at hki cell HB1 HEND ⊢
  have v1 := cell 1 _ rfl
  have v2 := cell 2 _ rfl
  obtain ⟨bv, HBV⟩ : ∃ bv, Hid (w.heap.size = bv) := ⟨_, rfl⟩
  obtain ⟨w1, HW1⟩ : ∃ w1, Hid (w.alloc (.cells #[.int .i64 k0, .int .i64 n, .int .u8 (b.toNat : Int)] 31) = w1) := ⟨_, rfl⟩
  rw [HW1.out] at hki HB1 HEND v1 v2
  rw [HBV.out] at v1 v2 HO0 HB1 HEND
  obtain ⟨own1, HOW⟩ : ∃ own1, Hid (grow own bv 0 = own1) := ⟨_, rfl⟩
  rw [HOW.out] at HB1 HEND HO0
  have HST : Hid (∀ (W : World) (tW tR : Nat) (SW SR : Sw) (QC QP : List ByteArray), Bx w1 own1 W x q B tW tR SW SR QC QP r rr → W.cell? ⟨x, 1, none⟩ = some (.pointer (some ⟨r, 0, none⟩)) ∧ W.cell? ⟨x, 3, none⟩ = some (.pointer (some ⟨rr, 0, none⟩)) ∧ W.cell? ⟨bv, 1, none⟩ = some (.int .i64 n)) := fun W _ _ _ _ _ _ h => ⟨h.cells.2.1, h.cells.2.2, h.stay HO0.out v1⟩
  have HV2 := hide v2
  have HS2 : Hid (∀ (W : World) (tW tR : Nat) (SW SR : Sw) (QC QP : List ByteArray), Bx w1 own1 W x q B tW tR SW SR QC QP r rr → W.cell? ⟨bv, 2, none⟩ = some (.int .u8 (b.toNat : Int))) := fun W _ _ _ _ _ _ h => h.stay HO0.out HV2.out
  have HKI := hide hki
  clear H cell ka hkd hki
  go_enter Tryz.func11, Tryz.ntmps11
  go_upto_region 1 with fail
  rw [HW1.out, HBV.out]
  have v0 : w1.cell? ⟨bv, 0, none⟩ = some (.int .i64 k0) := by
    rw [← HW1.out, ← HBV.out]
    exact new_cell w _ _ 0 _ rfl
  have hmn : ((min (max n 0) 300).toNat : Int) = min (max n 0) 300 := by omega
  have HFI := sfill_any b (min (max n 0) 300).toNat
  rw [hmn] at HFI
  have HF : Hid (∀ (W : World), Calls Tryz.prog 35 #[.int .u8 (b.toNat : Int), .int .i64 (min (max n 0) 300)] W fun e w' => e = .returned (.string (fillN b (min (max n 0) 300).toNat)) ∧ Kp none' W w') := fun W => HFI W (by omega)
  have HTX : Hid (Sop.hd ⟨k0, n, b⟩ = fillN b (min (max n 0) 300).toNat) := by show _ = _; rfl
  have hys : (fillN b (min (max n 0) 300).toNat).size ≤ 1000 := by rw [fillN_size]; omega
  obtain ⟨y, HY⟩ : ∃ y, Hid (fillN b (min (max n 0) 300).toNat = y) := ⟨_, rfl⟩
  rw [HY.out] at hys HF HTX
  clear HFI hmn
  obtain ⟨E, HE⟩ : ∃ E, Hid (S.setHeadE y = E) := ⟨_, rfl⟩
  have HA : Hid (∀ W : World, Bx w1 own1 W x q B tW tR S S Q Q r rr → Calls Tryz.prog 30 #[.pointer (some ⟨r, 0, none⟩), .string y] W fun e w' => e = .returned (.int .i64 E) ∧ Bx w1 own1 w' x q B (tW + 1) tR (S.setHead y) S Q Q r rr) := fun W h => by
    have := h.setHead h1 y hys
    rw [HE.out] at this
    exact this
  have HB : Hid (∀ W : World, Bx w1 own1 W x q B (tW + 1) tR (S.setHead y) S Q Q r rr → Calls Tryz.prog 39 #[.pointer (some ⟨rr, 0, none⟩), .string y] W fun e w' => e = .returned (.int .i64 E) ∧ Bx w1 own1 w' x q B (tW + 1) (tR + 1) (S.setHead y) (S.setHead y) Q Q r rr) := fun W h => by
    have := h.rsetHead h2 y hys
    rw [HE.out] at this
    exact this
  go_upto_region 18 with (first
    | (go_at_call 20; refine HKI.out.mono ?_; rintro e w2 ⟨rfl, hk2⟩)
    | fail)
  have hB2 := HB1.out.keep hk2
  have hv2 := HS2.out w2 _ _ _ _ _ _ hB2
  have hv1 := (HST.out w2 _ _ _ _ _ _ hB2).2.2
  go_upto_region 19 with (first
    | (go_at_call 35; refine (HF.out _).mono ?_; rintro e w3 ⟨rfl, hk3⟩)
    | fail)
  have hB3 := hB2.keep hk3
  have hBd := hB3.keep (Kp.drew none' w3)
  have T0 := HST.out w3.drew _ _ _ _ _ _ hBd
  go_region_held_law (fun W => W.cell? ⟨x, 1, none⟩ = some (.pointer (some ⟨r, 0, none⟩)) ∧ W.cell? ⟨x, 3, none⟩ = some (.pointer (some ⟨rr, 0, none⟩)) ∧ W.cell? ⟨bv, 1, none⟩ = some (.int .i64 n)) (first | assumption) (first
    | (go_at_call 30; refine (HA.out _ hBd).mono ?_; rintro e w4 ⟨rfl, hB4⟩; have T4 := HST.out w4 _ _ _ _ _ _ hB4)
    | (go_at_call 39; refine (HB.out _ hB4).mono ?_; rintro e w5 ⟨rfl, hB5⟩; have T5 := HST.out w5 _ _ _ _ _ _ hB5)
    | fail)
  have hee : (E == E) = true := by simp
  all_goals (
    go_wp2
    go_ret
    refine ⟨rfl, ?_⟩
    rw [HTX.out]
    exact HEND.out _ _ _ hB5)
set_option maxRecDepth 100000 in
set_option maxHeartbeats 1600000 in
theorem bstep5 {w : World} {own : Nat → Nat} {x : Nat} {q : Cq} {B tW tR : Nat} {S : Sw} {Q : List ByteArray} {r rr : Nat} (o : Sop) (H : Bp w own x q B tW tR S S Q Q r rr) (h1 : tW ≤ 1000) (h2 : tR ≤ 900) (hkd : o.kind = 5) :
    Calls Tryz.prog 11 #[.pointer (some ⟨x, 0, none⟩), .agg o.cells] w fun e w' => e = .returned (.bool true) ∧ Bx w own w' x q B (tW + 1) (tR + 1) (S.does o) (S.does o) (S.doesQ o Q) (S.doesQ o Q) r rr := by
  have hki := skind_any o (w.alloc (.cells o.cells 31))
  have cell := new_cell w o.cells 31
  have ka := Kp.alloc none' w (.cells o.cells 31)
  have HB1 : Hid (Bx (w.alloc (.cells o.cells 31)) (grow own w.heap.size 0) (w.alloc (.cells o.cells 31)) x q B tW tR S S Q Q r rr) := Bx.refl (H.keep ka)
  have HEND : Hid (∀ (w' : World) (S' : Sw) (Q' : List ByteArray), Bx (w.alloc (.cells o.cells 31)) (grow own w.heap.size 0) w' x q B (tW + 1) (tR + 1) S' S' Q' Q' r rr → Bx w own w' x q B (tW + 1) (tR + 1) S' S' Q' Q' r rr) := fun w' S' Q' h => Bx.from_ (fun k hk => grow_old hk) (ka.mono (fun _ _ h => h.elim)) h
  have HO0 : Hid ((grow own w.heap.size 0) w.heap.size = 0) := grow_new (Nat.le_refl _)
  rw [hkd] at hki
  unfold Sw.does Sw.doesQ
  rw [hkd]
  obtain ⟨k0, n, b⟩ := o
  unfold Sop.cells at hki cell HB1 HEND ⊢
  dsimp only at hki cell HB1 HEND ⊢
  have v1 := cell 1 _ rfl
  have v2 := cell 2 _ rfl
  obtain ⟨bv, HBV⟩ : ∃ bv, Hid (w.heap.size = bv) := ⟨_, rfl⟩
  obtain ⟨w1, HW1⟩ : ∃ w1, Hid (w.alloc (.cells #[.int .i64 k0, .int .i64 n, .int .u8 (b.toNat : Int)] 31) = w1) := ⟨_, rfl⟩
  rw [HW1.out] at hki HB1 HEND v1 v2
  rw [HBV.out] at v1 v2 HO0 HB1 HEND
  obtain ⟨own1, HOW⟩ : ∃ own1, Hid (grow own bv 0 = own1) := ⟨_, rfl⟩
  rw [HOW.out] at HB1 HEND HO0
  have HST : Hid (∀ (W : World) (tW tR : Nat) (SW SR : Sw) (QC QP : List ByteArray), Bx w1 own1 W x q B tW tR SW SR QC QP r rr → W.cell? ⟨x, 1, none⟩ = some (.pointer (some ⟨r, 0, none⟩)) ∧ W.cell? ⟨x, 3, none⟩ = some (.pointer (some ⟨rr, 0, none⟩)) ∧ W.cell? ⟨bv, 1, none⟩ = some (.int .i64 n)) := fun W _ _ _ _ _ _ h => ⟨h.cells.2.1, h.cells.2.2, h.stay HO0.out v1⟩
  have HV2 := hide v2
  have HS2 : Hid (∀ (W : World) (tW tR : Nat) (SW SR : Sw) (QC QP : List ByteArray), Bx w1 own1 W x q B tW tR SW SR QC QP r rr → W.cell? ⟨bv, 2, none⟩ = some (.int .u8 (b.toNat : Int))) := fun W _ _ _ _ _ _ h => h.stay HO0.out HV2.out
  have HKI := hide hki
  clear H cell ka hkd hki
  go_enter Tryz.func11, Tryz.ntmps11
  go_upto_region 1 with fail
  rw [HW1.out, HBV.out]
  have v0 : w1.cell? ⟨bv, 0, none⟩ = some (.int .i64 k0) := by
    rw [← HW1.out, ← HBV.out]
    exact new_cell w _ _ 0 _ rfl
  obtain ⟨E, HE⟩ : ∃ E, Hid (S.saveN = E) := ⟨_, rfl⟩
  have HA : Hid (∀ W : World, Bx w1 own1 W x q B tW tR S S Q Q r rr → Calls Tryz.prog 23 #[.pointer (some ⟨r, 0, none⟩)] W fun e w' => e = .returned (.int .i64 E) ∧ Bx w1 own1 w' x q B (tW + 1) tR (S.save) S Q Q r rr) := fun W h => by
    have := h.save h1
    rw [HE.out] at this
    exact this
  have HB : Hid (∀ W : World, Bx w1 own1 W x q B (tW + 1) tR (S.save) S Q Q r rr → Calls Tryz.prog 40 #[.pointer (some ⟨rr, 0, none⟩)] W fun e w' => e = .returned (.int .i64 E) ∧ Bx w1 own1 w' x q B (tW + 1) (tR + 1) (S.save) (S.save) Q Q r rr) := fun W h => by
    have := h.rsave h2
    rw [HE.out] at this
    exact this
  go_upto_region 21 with (first
    | (go_at_call 20; refine HKI.out.mono ?_; rintro e w2 ⟨rfl, hk2⟩)
    | fail)
  have hB2 := HB1.out.keep hk2
  have hBd := hB2.keep (Kp.drew none' w2)
  have T0 := HST.out w2.drew _ _ _ _ _ _ hBd
  go_region_held_law (fun W => W.cell? ⟨x, 1, none⟩ = some (.pointer (some ⟨r, 0, none⟩)) ∧ W.cell? ⟨x, 3, none⟩ = some (.pointer (some ⟨rr, 0, none⟩)) ∧ W.cell? ⟨bv, 1, none⟩ = some (.int .i64 n)) (first | assumption) (first
    | (go_at_call 23; refine (HA.out _ hBd).mono ?_; rintro e w4 ⟨rfl, hB4⟩; have T4 := HST.out w4 _ _ _ _ _ _ hB4)
    | (go_at_call 40; refine (HB.out _ hB4).mono ?_; rintro e w5 ⟨rfl, hB5⟩; have T5 := HST.out w5 _ _ _ _ _ _ hB5)
    | fail)
  have hee : (E == E) = true := by simp
  all_goals (
    go_wp2
    go_ret
    refine ⟨rfl, ?_⟩
    exact HEND.out _ _ _ hB5)
set_option maxRecDepth 100000 in
set_option maxHeartbeats 1600000 in
theorem bstep6 {w : World} {own : Nat → Nat} {x : Nat} {q : Cq} {B tW tR : Nat} {S : Sw} {Q : List ByteArray} {r rr : Nat} (o : Sop) (H : Bp w own x q B tW tR S S Q Q r rr) (h1 : tW ≤ 1000) (h2 : tR ≤ 900) (hkd : o.kind = 6) :
    Calls Tryz.prog 11 #[.pointer (some ⟨x, 0, none⟩), .agg o.cells] w fun e w' => e = .returned (.bool true) ∧ Bx w own w' x q B (tW + 1) (tR + 1) (S.does o) (S.does o) (S.doesQ o Q) (S.doesQ o Q) r rr := by
  have hki := skind_any o (w.alloc (.cells o.cells 31))
  have cell := new_cell w o.cells 31
  have ka := Kp.alloc none' w (.cells o.cells 31)
  have HB1 : Hid (Bx (w.alloc (.cells o.cells 31)) (grow own w.heap.size 0) (w.alloc (.cells o.cells 31)) x q B tW tR S S Q Q r rr) := Bx.refl (H.keep ka)
  have HEND : Hid (∀ (w' : World) (S' : Sw) (Q' : List ByteArray), Bx (w.alloc (.cells o.cells 31)) (grow own w.heap.size 0) w' x q B (tW + 1) (tR + 1) S' S' Q' Q' r rr → Bx w own w' x q B (tW + 1) (tR + 1) S' S' Q' Q' r rr) := fun w' S' Q' h => Bx.from_ (fun k hk => grow_old hk) (ka.mono (fun _ _ h => h.elim)) h
  have HO0 : Hid ((grow own w.heap.size 0) w.heap.size = 0) := grow_new (Nat.le_refl _)
  rw [hkd] at hki
  unfold Sw.does Sw.doesQ
  rw [hkd]
  obtain ⟨k0, n, b⟩ := o
  unfold Sop.cells at hki cell HB1 HEND ⊢
  dsimp only at hki cell HB1 HEND ⊢
  have v1 := cell 1 _ rfl
  have v2 := cell 2 _ rfl
  obtain ⟨bv, HBV⟩ : ∃ bv, Hid (w.heap.size = bv) := ⟨_, rfl⟩
  obtain ⟨w1, HW1⟩ : ∃ w1, Hid (w.alloc (.cells #[.int .i64 k0, .int .i64 n, .int .u8 (b.toNat : Int)] 31) = w1) := ⟨_, rfl⟩
  rw [HW1.out] at hki HB1 HEND v1 v2
  rw [HBV.out] at v1 v2 HO0 HB1 HEND
  obtain ⟨own1, HOW⟩ : ∃ own1, Hid (grow own bv 0 = own1) := ⟨_, rfl⟩
  rw [HOW.out] at HB1 HEND HO0
  have HST : Hid (∀ (W : World) (tW tR : Nat) (SW SR : Sw) (QC QP : List ByteArray), Bx w1 own1 W x q B tW tR SW SR QC QP r rr → W.cell? ⟨x, 1, none⟩ = some (.pointer (some ⟨r, 0, none⟩)) ∧ W.cell? ⟨x, 3, none⟩ = some (.pointer (some ⟨rr, 0, none⟩)) ∧ W.cell? ⟨bv, 1, none⟩ = some (.int .i64 n)) := fun W _ _ _ _ _ _ h => ⟨h.cells.2.1, h.cells.2.2, h.stay HO0.out v1⟩
  have HV2 := hide v2
  have HS2 : Hid (∀ (W : World) (tW tR : Nat) (SW SR : Sw) (QC QP : List ByteArray), Bx w1 own1 W x q B tW tR SW SR QC QP r rr → W.cell? ⟨bv, 2, none⟩ = some (.int .u8 (b.toNat : Int))) := fun W _ _ _ _ _ _ h => h.stay HO0.out HV2.out
  have HKI := hide hki
  clear H cell ka hkd hki
  go_enter Tryz.func11, Tryz.ntmps11
  go_upto_region 1 with fail
  rw [HW1.out, HBV.out]
  have v0 : w1.cell? ⟨bv, 0, none⟩ = some (.int .i64 k0) := by
    rw [← HW1.out, ← HBV.out]
    exact new_cell w _ _ 0 _ rfl
  obtain ⟨E, HE⟩ : ∃ E, Hid (S.backE n = E) := ⟨_, rfl⟩
  have HA : Hid (∀ W : World, Bx w1 own1 W x q B tW tR S S Q Q r rr → Calls Tryz.prog 26 #[.pointer (some ⟨r, 0, none⟩), .int .i64 n] W fun e w' => e = .returned (.int .i64 E) ∧ Bx w1 own1 w' x q B (tW + 1) tR (S.back n) S Q Q r rr) := fun W h => by
    have := h.back h1 n
    rw [HE.out] at this
    exact this
  have HB : Hid (∀ W : World, Bx w1 own1 W x q B (tW + 1) tR (S.back n) S Q Q r rr → Calls Tryz.prog 41 #[.pointer (some ⟨rr, 0, none⟩), .int .i64 n] W fun e w' => e = .returned (.int .i64 E) ∧ Bx w1 own1 w' x q B (tW + 1) (tR + 1) (S.back n) (S.back n) Q Q r rr) := fun W h => by
    have := h.rback h2 n
    rw [HE.out] at this
    exact this
  go_upto_region 23 with (first
    | (go_at_call 20; refine HKI.out.mono ?_; rintro e w2 ⟨rfl, hk2⟩)
    | fail)
  have hB2 := HB1.out.keep hk2
  have hBd := hB2.keep (Kp.drew none' w2)
  have T0 := HST.out w2.drew _ _ _ _ _ _ hBd
  go_region_held_law (fun W => W.cell? ⟨x, 1, none⟩ = some (.pointer (some ⟨r, 0, none⟩)) ∧ W.cell? ⟨x, 3, none⟩ = some (.pointer (some ⟨rr, 0, none⟩)) ∧ W.cell? ⟨bv, 1, none⟩ = some (.int .i64 n)) (first | assumption) (first
    | (go_at_call 26; refine (HA.out _ hBd).mono ?_; rintro e w4 ⟨rfl, hB4⟩; have T4 := HST.out w4 _ _ _ _ _ _ hB4)
    | (go_at_call 41; refine (HB.out _ hB4).mono ?_; rintro e w5 ⟨rfl, hB5⟩; have T5 := HST.out w5 _ _ _ _ _ _ hB5)
    | fail)
  have hee : (E == E) = true := by simp
  all_goals (
    go_wp2
    go_ret
    refine ⟨rfl, ?_⟩
    exact HEND.out _ _ _ hB5)
set_option maxRecDepth 100000 in
set_option maxHeartbeats 1600000 in
theorem bstep7 {w : World} {own : Nat → Nat} {x : Nat} {q : Cq} {B tW tR : Nat} {S : Sw} {Q : List ByteArray} {r rr : Nat} (o : Sop) (H : Bp w own x q B tW tR S S Q Q r rr) (h1 : tW ≤ 1000) (h2 : tR ≤ 900) (hkd : o.kind = 7) :
    Calls Tryz.prog 11 #[.pointer (some ⟨x, 0, none⟩), .agg o.cells] w fun e w' => e = .returned (.bool true) ∧ Bx w own w' x q B (tW + 1) (tR + 1) (S.does o) (S.does o) (S.doesQ o Q) (S.doesQ o Q) r rr := by
  have hki := skind_any o (w.alloc (.cells o.cells 31))
  have cell := new_cell w o.cells 31
  have ka := Kp.alloc none' w (.cells o.cells 31)
  have HB1 : Hid (Bx (w.alloc (.cells o.cells 31)) (grow own w.heap.size 0) (w.alloc (.cells o.cells 31)) x q B tW tR S S Q Q r rr) := Bx.refl (H.keep ka)
  have HEND : Hid (∀ (w' : World) (S' : Sw) (Q' : List ByteArray), Bx (w.alloc (.cells o.cells 31)) (grow own w.heap.size 0) w' x q B (tW + 1) (tR + 1) S' S' Q' Q' r rr → Bx w own w' x q B (tW + 1) (tR + 1) S' S' Q' Q' r rr) := fun w' S' Q' h => Bx.from_ (fun k hk => grow_old hk) (ka.mono (fun _ _ h => h.elim)) h
  have HO0 : Hid ((grow own w.heap.size 0) w.heap.size = 0) := grow_new (Nat.le_refl _)
  rw [hkd] at hki
  unfold Sw.does Sw.doesQ
  rw [hkd]
  obtain ⟨k0, n, b⟩ := o
  unfold Sop.cells at hki cell HB1 HEND ⊢
  dsimp only at hki cell HB1 HEND ⊢
  have v1 := cell 1 _ rfl
  have v2 := cell 2 _ rfl
  obtain ⟨bv, HBV⟩ : ∃ bv, Hid (w.heap.size = bv) := ⟨_, rfl⟩
  obtain ⟨w1, HW1⟩ : ∃ w1, Hid (w.alloc (.cells #[.int .i64 k0, .int .i64 n, .int .u8 (b.toNat : Int)] 31) = w1) := ⟨_, rfl⟩
  rw [HW1.out] at hki HB1 HEND v1 v2
  rw [HBV.out] at v1 v2 HO0 HB1 HEND
  obtain ⟨own1, HOW⟩ : ∃ own1, Hid (grow own bv 0 = own1) := ⟨_, rfl⟩
  rw [HOW.out] at HB1 HEND HO0
  have HST : Hid (∀ (W : World) (tW tR : Nat) (SW SR : Sw) (QC QP : List ByteArray), Bx w1 own1 W x q B tW tR SW SR QC QP r rr → W.cell? ⟨x, 1, none⟩ = some (.pointer (some ⟨r, 0, none⟩)) ∧ W.cell? ⟨x, 3, none⟩ = some (.pointer (some ⟨rr, 0, none⟩)) ∧ W.cell? ⟨bv, 1, none⟩ = some (.int .i64 n)) := fun W _ _ _ _ _ _ h => ⟨h.cells.2.1, h.cells.2.2, h.stay HO0.out v1⟩
  have HV2 := hide v2
  have HS2 : Hid (∀ (W : World) (tW tR : Nat) (SW SR : Sw) (QC QP : List ByteArray), Bx w1 own1 W x q B tW tR SW SR QC QP r rr → W.cell? ⟨bv, 2, none⟩ = some (.int .u8 (b.toNat : Int))) := fun W _ _ _ _ _ _ h => h.stay HO0.out HV2.out
  have HKI := hide hki
  clear H cell ka hkd hki
  go_enter Tryz.func11, Tryz.ntmps11
  go_upto_region 1 with fail
  rw [HW1.out, HBV.out]
  have v0 : w1.cell? ⟨bv, 0, none⟩ = some (.int .i64 k0) := by
    rw [← HW1.out, ← HBV.out]
    exact new_cell w _ _ 0 _ rfl
  obtain ⟨E, HE⟩ : ∃ E, Hid (S.commitE = E) := ⟨_, rfl⟩
  have HA : Hid (∀ W : World, Bx w1 own1 W x q B tW tR S S Q Q r rr → Calls Tryz.prog 31 #[.pointer (some ⟨r, 0, none⟩)] W fun e w' => e = .returned (.int .i64 E) ∧ Bx w1 own1 w' x q B (tW + 1) tR S.commit S (S.pages Q) Q r rr) := fun W h => by
    have := h.commit h1
    rw [HE.out] at this
    exact this
  have HB : Hid (∀ (W : World) (rp : Nat), Bx w1 own1 W x q B (tW + 1) tR S.commit S (S.pages Q) Q r rr → W.cell? ⟨x, 2, none⟩ = some (.pointer (some ⟨rp, 0, none⟩)) → Calls Tryz.prog 42 #[.pointer (some ⟨rr, 0, none⟩), .pointer (some ⟨rp, 0, none⟩)] W fun e w' => ∃ rp', e = .returned (.tuple #[.pointer (some ⟨rp', 0, none⟩), .int .i64 E]) ∧ w'.cell? ⟨x, 2, none⟩ = some (.pointer (some ⟨rp, 0, none⟩)) ∧ w'.frozen? ⟨x, 2, none⟩ = false ∧ Bx w1 own1 (w'.setCell ⟨x, 2, none⟩ (.pointer (some ⟨rp', 0, none⟩))) x q B (tW + 1) tR S.commit S.commit (S.pages Q) (S.pages Q) r rr) := fun W rp h hc => by
    have := h.rcommit rp hc
    rw [HE.out] at this
    exact this
  go_upto_region 24 with (first
    | (go_at_call 20; refine HKI.out.mono ?_; rintro e w2 ⟨rfl, hk2⟩)
    | fail)
  have hB2 := HB1.out.keep hk2
  have c21 := hB2.cells.2.1
  go_upto_region 25 with (first
    | (go_at_call 31; refine (HA.out _ hB2).mono ?_; rintro e w4 ⟨rfl, hB4⟩)
    | fail)
  have hB4d := hB4.keep (Kp.drew none' w4)
  have c43 := hB4d.cells.2.2
  obtain ⟨rp, c42⟩ : ∃ rp, w4.drew.cell? ⟨x, 2, none⟩ = some (.pointer (some ⟨rp, 0, none⟩)) := by
    obtain ⟨own', hb, _⟩ := hB4d
    obtain ⟨rp, p1, _⟩ := hb.P
    exact ⟨rp, p1⟩
  have T0 : w4.drew.cell? ⟨x, 3, none⟩ = some (.pointer (some ⟨rr, 0, none⟩)) ∧ w4.drew.cell? ⟨x, 2, none⟩ = some (.pointer (some ⟨rp, 0, none⟩)) := ⟨c43, c42⟩
  have hBH := hide hB4d
  have hcc := HB.out _ rp hB4d c42
  have HCC := hide hcc
  clear hcc hB4d
  have hee : (E == E) = true := by simp
  go_region_with (first
    | (go_at_call 42; refine HCC.out.mono ?_; rintro e w5 ⟨rp', rfl, d2, f2, hB5⟩)
    | fail)
  all_goals (
    have HB5 := hide (hB5.more (Nat.le_refl _) (Nat.le_succ _))
    clear hB5
    go_wp2
    go_ret
    exact ⟨rfl, HEND.out _ _ _ HB5.out⟩)
theorem bstep_any {w : World} {own : Nat → Nat} {x : Nat} {q : Cq} {B tW tR : Nat} {S : Sw} {Q : List ByteArray} {r rr : Nat} (o : Sop) (H : Bp w own x q B tW tR S S Q Q r rr) (h1 : tW ≤ 1000) (h2 : tR ≤ 900) :
    Calls Tryz.prog 11 #[.pointer (some ⟨x, 0, none⟩), .agg o.cells] w fun e w' => e = .returned (.bool true) ∧ Bx w own w' x q B (tW + 1) (tR + 1) (S.does o) (S.does o) (S.doesQ o Q) (S.doesQ o Q) r rr := by
  rcases o.kinds with h | h | h | h | h | h | h | h
  · exact bstep0 o H h1 h2 h
  · exact bstep1 o H h1 h2 h
  · exact bstep2 o H h1 h2 h
  · exact bstep3 o H h1 h2 h
  · exact bstep4 o H h1 h2 h
  · exact bstep5 o H h1 h2 h
  · exact bstep6 o H h1 h2 h
  · exact bstep7 o H h1 h2 h

end Go.Proofs.YtmnedhlgplkfhaaGreat
