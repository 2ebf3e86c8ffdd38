/- Contracts, over the turned program: a step of both pieces of work where they part in their notes; what goes back. Conditions: those that each theorem states. -/
import Derived.Test.YtmnedhlgplkfhaaGreatSBv
namespace Go.Proofs.YtmnedhlgplkfhaaGreat
open Go.RowKit
set_option linter.unusedVariables false

/-- Some bool is returned. -/
def IsB (e : Ending) : Prop := ∃ bb, e = .returned (.bool bb)
/-- Both have the same pages, and are over or not alike. -/
def Alike (S T : Sw) : Prop := S.now = T.now ∧ S.over = T.over
theorem Alike.read {S T : Sw} (h : Alike S T) (z : Int) : S.read z = T.read z := by unfold Sw.read; rw [h.1, h.2]
theorem Alike.writeE {S T : Sw} (h : Alike S T) (z : Int) (y : ByteArray) : S.writeE z y = T.writeE z y := by unfold Sw.writeE; rw [h.1, h.2]
theorem Alike.takeE {S T : Sw} (h : Alike S T) : S.takeE = T.takeE := by unfold Sw.takeE Sw.free; rw [h.1, h.2]
theorem Alike.dropE {S T : Sw} (h : Alike S T) (z : Int) : S.dropE z = T.dropE z := by unfold Sw.dropE; rw [h.1, h.2]
theorem Alike.setHeadE {S T : Sw} (h : Alike S T) (y : ByteArray) : S.setHeadE y = T.setHeadE y := by unfold Sw.setHeadE; rw [h.2]
theorem Alike.head {S T : Sw} (h : Alike S T) : S.head = T.head := by unfold Sw.head; rw [h.1, h.2]
theorem Alike.usedN {S T : Sw} (h : Alike S T) : S.usedN = T.usedN := by unfold Sw.usedN; rw [h.1, h.2]
theorem Alike.does {S T : Sw} (h : Alike S T) (o : Sop) (h6 : o.kind ≠ 6) (h7 : o.kind ≠ 7) : Alike (S.does o) (T.does o) := by
  unfold Sw.does
  split
  · exact h
  · split
    · unfold Sw.write
      rw [h.writeE]
      split
      · exact ⟨by show S.now.set _ _ = T.now.set _ _; rw [h.1], h.2⟩
      · exact h
    · split
      · unfold Sw.take Sw.free
        rw [h.1, h.2]
        split
        · exact h
        · split
          · exact ⟨rfl, rfl⟩
          · exact h
      · split
        · unfold Sw.drop
          rw [h.dropE]
          split
          · exact ⟨by show turnL S.now _ = turnL T.now _; rw [h.1], h.2⟩
          · exact h
        · split
          · unfold Sw.setHead
            rw [h.setHeadE]
            split
            · exact ⟨by show S.now.set _ _ = T.now.set _ _; rw [h.1], h.2⟩
            · exact h
          · split
            · unfold Sw.save
              rw [h.2]
              split
              · exact h
              · exact ⟨h.1, rfl⟩
            · exfalso
              rcases o.kinds with e | e | e | e | e | e | e | e <;> contradiction
/-- Steps that neither commit nor go back leave the notes. -/
theorem does_from (S : Sw) (o : Sop) (h6 : o.kind ≠ 6) (h7 : o.kind ≠ 7) : S.From (S.does o) := by
  unfold Sw.does
  split
  · exact .refl _
  · split
    · exact from_write _ _ _
    · split
      · exact from_take _ _
      · split
        · exact from_drop _ _
        · split
          · exact from_setHead _ _
          · split
            · exact from_save _
            · exfalso
              rcases o.kinds with e | e | e | e | e | e | e | e <;> contradiction
theorem does_over (S : Sw) (o : Sop) (h7 : o.kind ≠ 7) : (S.does o).over = S.over := by
  by_cases h6 : o.kind = 6
  · unfold Sw.does
    rw [h6]
    exact (back_bo S o.n).2.1
  · exact (does_from S o h6 h7).over
set_option maxRecDepth 100000 in
set_option maxHeartbeats 1600000 in
theorem gstep0 {w : World} {own : Nat → Nat} {x : Nat} {q : Cq} {B tW tR : Nat} {SW SR : Sw} {QC QP : List ByteArray} {r rr : Nat} (o : Sop) (H : Bp w own x q B tW tR SW SR QC QP r rr) (hal : Alike SW SR) (h1 : tW ≤ 1000) (h2 : tR ≤ 900) (hkd : o.kind = 0) :
    Calls Tryz.prog 11 #[.pointer (some ⟨x, 0, none⟩), .agg o.cells] w fun e w' => IsB e ∧ Bx w own w' x q B (tW + 1) (tR + 1) (SW.does o) (SR.does o) QC QP r rr := by
  have hki := skind_any o (w.alloc (.cells o.cells 31))
  have cell := new_cell w o.cells 31
  have ka := Kp.alloc none' w (.cells o.cells 31)
  have HB1 : Hid (Bx (w.alloc (.cells o.cells 31)) (grow own w.heap.size 0) (w.alloc (.cells o.cells 31)) x q B tW tR SW SR QC QP r rr) := Bx.refl (H.keep ka)
  have HEND : Hid (∀ (w' : World) (S1 S2 : Sw) (Q1 Q2 : List ByteArray), Bx (w.alloc (.cells o.cells 31)) (grow own w.heap.size 0) w' x q B (tW + 1) (tR + 1) S1 S2 Q1 Q2 r rr → Bx w own w' x q B (tW + 1) (tR + 1) S1 S2 Q1 Q2 r rr) := fun w' S1 S2 Q1 Q2 h => Bx.from_ (fun k hk => grow_old hk) (ka.mono (fun _ _ h => h.elim)) h
  have HO0 : Hid ((grow own w.heap.size 0) w.heap.size = 0) := grow_new (Nat.le_refl _)
  rw [hkd] at hki
  unfold Sw.does
  rw [hkd]
  obtain ⟨k0, n, b⟩ := o
  unfold Sop.cells at hki cell HB1 HEND ⊢
  dsimp only at hki cell HB1 HEND ⊢
  have v1 := cell 1 _ rfl
  have v2 := cell 2 _ rfl
  obtain ⟨bv, HBV⟩ : ∃ bv, Hid (w.heap.size = bv) := ⟨_, rfl⟩
  obtain ⟨w1, HW1⟩ : ∃ w1, Hid (w.alloc (.cells #[.int .i64 k0, .int .i64 n, .int .u8 (b.toNat : Int)] 31) = w1) := ⟨_, rfl⟩
  rw [HW1.out] at hki HB1 HEND v1 v2
  rw [HBV.out] at v1 v2 HO0 HB1 HEND
  obtain ⟨own1, HOW⟩ : ∃ own1, Hid (grow own bv 0 = own1) := ⟨_, rfl⟩
  rw [HOW.out] at HB1 HEND HO0
  have HST : Hid (∀ (W : World) (tW tR : Nat) (SW SR : Sw) (QC QP : List ByteArray), Bx w1 own1 W x q B tW tR SW SR QC QP r rr → W.cell? ⟨x, 1, none⟩ = some (.pointer (some ⟨r, 0, none⟩)) ∧ W.cell? ⟨x, 3, none⟩ = some (.pointer (some ⟨rr, 0, none⟩)) ∧ W.cell? ⟨bv, 1, none⟩ = some (.int .i64 n)) := fun W _ _ _ _ _ _ h => ⟨h.cells.2.1, h.cells.2.2, h.stay HO0.out v1⟩
  have HV2 := hide v2
  have HS2 : Hid (∀ (W : World) (tW tR : Nat) (SW SR : Sw) (QC QP : List ByteArray), Bx w1 own1 W x q B tW tR SW SR QC QP r rr → W.cell? ⟨bv, 2, none⟩ = some (.int .u8 (b.toNat : Int))) := fun W _ _ _ _ _ _ h => h.stay HO0.out HV2.out
  have HKI := hide hki
  clear H cell ka hkd hki
  go_enter Tryz.func11, Tryz.ntmps11
  go_upto_region 1 with fail
  rw [HW1.out, HBV.out]
  have v0 : w1.cell? ⟨bv, 0, none⟩ = some (.int .i64 k0) := by
    rw [← HW1.out, ← HBV.out]
    exact new_cell w _ _ 0 _ rfl
  obtain ⟨X, HX⟩ : ∃ X, Hid ((SW.read n).1 = X) := ⟨_, rfl⟩
  obtain ⟨E, HE⟩ : ∃ E, Hid ((SW.read n).2 = E) := ⟨_, rfl⟩
  have HRD : Hid (∀ W : World, Bx w1 own1 W x q B tW tR SW SR QC QP r rr → Calls Tryz.prog 25 #[.pointer (some ⟨r, 0, none⟩), .int .i64 n] W fun e w' => e = .returned (.tuple #[.string X, .int .i64 E]) ∧ w' = W) := fun W h => by
    have := h.read n
    rw [HX.out, HE.out] at this
    exact this
  have HRR : Hid (∀ W : World, Bx w1 own1 W x q B tW tR SW SR QC QP r rr → Calls Tryz.prog 34 #[.pointer (some ⟨rr, 0, none⟩), .int .i64 n] W fun e w' => e = .returned (.tuple #[.string X, .int .i64 E]) ∧ w' = W) := fun W h => by
    have := h.rread n
    rw [← hal.read n, HX.out, HE.out] at this
    exact this
  go_upto_region 3 with (first
    | (go_at_call 20; refine HKI.out.mono ?_; rintro e w2 ⟨rfl, hk2⟩)
    | fail)
  have hB2 := HB1.out.keep hk2
  have hBd := hB2.keep (Kp.drew none' w2)
  have T0 := HST.out w2.drew _ _ _ _ _ _ hBd
  go_region_held_law (fun W => W.cell? ⟨x, 1, none⟩ = some (.pointer (some ⟨r, 0, none⟩)) ∧ W.cell? ⟨x, 3, none⟩ = some (.pointer (some ⟨rr, 0, none⟩)) ∧ W.cell? ⟨bv, 1, none⟩ = some (.int .i64 n)) (first | assumption) (first
    | (go_at_call 25; refine (HRD.out _ hBd).mono ?_; rintro e w3 ⟨rfl, hw3⟩; obtain rfl := hw3.symm)
    | fail)
  go_upto_region 4 with fail
  have hBe := hBd.keep (Kp.drew none' w2.drew)
  have T1 := HST.out w2.drew.drew _ _ _ _ _ _ hBe
  go_region_held_law (fun W => W.cell? ⟨x, 1, none⟩ = some (.pointer (some ⟨r, 0, none⟩)) ∧ W.cell? ⟨x, 3, none⟩ = some (.pointer (some ⟨rr, 0, none⟩)) ∧ W.cell? ⟨bv, 1, none⟩ = some (.int .i64 n)) (first | assumption) (first
    | (go_at_call 34; refine (HRR.out _ hBe).mono ?_; rintro e w3 ⟨rfl, hw3⟩; obtain rfl := hw3.symm)
    | fail)
  have hxx : (X.toList == X.toList) = true := by simp
  have hee : (E == E) = true := by simp
  go_wp2
  go_ret
  refine ⟨⟨_, rfl⟩, ?_⟩
  exact HEND.out _ _ _ _ _ (hBe.more (Nat.le_succ _) (Nat.le_succ _))
set_option maxRecDepth 100000 in
set_option maxHeartbeats 1600000 in
theorem gstep1 {w : World} {own : Nat → Nat} {x : Nat} {q : Cq} {B tW tR : Nat} {SW SR : Sw} {QC QP : List ByteArray} {r rr : Nat} (o : Sop) (H : Bp w own x q B tW tR SW SR QC QP r rr) (hal : Alike SW SR) (h1 : tW ≤ 1000) (h2 : tR ≤ 900) (hkd : o.kind = 1) :
    Calls Tryz.prog 11 #[.pointer (some ⟨x, 0, none⟩), .agg o.cells] w fun e w' => IsB e ∧ Bx w own w' x q B (tW + 1) (tR + 1) (SW.does o) (SR.does o) QC QP r rr := by
  have hki := skind_any o (w.alloc (.cells o.cells 31))
  have cell := new_cell w o.cells 31
  have ka := Kp.alloc none' w (.cells o.cells 31)
  have HB1 : Hid (Bx (w.alloc (.cells o.cells 31)) (grow own w.heap.size 0) (w.alloc (.cells o.cells 31)) x q B tW tR SW SR QC QP r rr) := Bx.refl (H.keep ka)
  have HEND : Hid (∀ (w' : World) (S1 S2 : Sw) (Q1 Q2 : List ByteArray), Bx (w.alloc (.cells o.cells 31)) (grow own w.heap.size 0) w' x q B (tW + 1) (tR + 1) S1 S2 Q1 Q2 r rr → Bx w own w' x q B (tW + 1) (tR + 1) S1 S2 Q1 Q2 r rr) := fun w' S1 S2 Q1 Q2 h => Bx.from_ (fun k hk => grow_old hk) (ka.mono (fun _ _ h => h.elim)) h
  have HO0 : Hid ((grow own w.heap.size 0) w.heap.size = 0) := grow_new (Nat.le_refl _)
  rw [hkd] at hki
  unfold Sw.does
  rw [hkd]
  obtain ⟨k0, n, b⟩ := o
  unfold Sop.cells at hki cell HB1 HEND ⊢
  dsimp only at hki cell HB1 HEND ⊢
  have v1 := cell 1 _ rfl
  have v2 := cell 2 _ rfl
  obtain ⟨bv, HBV⟩ : ∃ bv, Hid (w.heap.size = bv) := ⟨_, rfl⟩
  obtain ⟨w1, HW1⟩ : ∃ w1, Hid (w.alloc (.cells #[.int .i64 k0, .int .i64 n, .int .u8 (b.toNat : Int)] 31) = w1) := ⟨_, rfl⟩
  rw [HW1.out] at hki HB1 HEND v1 v2
  rw [HBV.out] at v1 v2 HO0 HB1 HEND
  obtain ⟨own1, HOW⟩ : ∃ own1, Hid (grow own bv 0 = own1) := ⟨_, rfl⟩
  rw [HOW.out] at HB1 HEND HO0
  have HST : Hid (∀ (W : World) (tW tR : Nat) (SW SR : Sw) (QC QP : List ByteArray), Bx w1 own1 W x q B tW tR SW SR QC QP r rr → W.cell? ⟨x, 1, none⟩ = some (.pointer (some ⟨r, 0, none⟩)) ∧ W.cell? ⟨x, 3, none⟩ = some (.pointer (some ⟨rr, 0, none⟩)) ∧ W.cell? ⟨bv, 1, none⟩ = some (.int .i64 n)) := fun W _ _ _ _ _ _ h => ⟨h.cells.2.1, h.cells.2.2, h.stay HO0.out v1⟩
  have HV2 := hide v2
  have HS2 : Hid (∀ (W : World) (tW tR : Nat) (SW SR : Sw) (QC QP : List ByteArray), Bx w1 own1 W x q B tW tR SW SR QC QP r rr → W.cell? ⟨bv, 2, none⟩ = some (.int .u8 (b.toNat : Int))) := fun W _ _ _ _ _ _ h => h.stay HO0.out HV2.out
  have HKI := hide hki
  clear H cell ka hkd hki
  go_enter Tryz.func11, Tryz.ntmps11
  go_upto_region 1 with fail
  rw [HW1.out, HBV.out]
  have v0 : w1.cell? ⟨bv, 0, none⟩ = some (.int .i64 k0) := by
    rw [← HW1.out, ← HBV.out]
    exact new_cell w _ _ 0 _ rfl
  have hbb := min_bv b
  have HFI : Hid (∀ (W : World) (m : Nat), m ≤ 1000 → Calls Tryz.prog 35 #[.int .u8 (b.toNat : Int), .int .i64 (m : Int)] W fun e w' => e = .returned (.string (fillN b m)) ∧ Kp none' W w') := fun W m hm => sfill_any b m W hm
  have HF256 : Hid (∀ (W : World), Calls Tryz.prog 35 #[.int .u8 (b.toNat : Int), .int .i64 256] W fun e w' => e = .returned (.string (fillN b 256)) ∧ Kp none' W w') := fun W => HFI.out W 256 (by omega)
  have HF9 : Hid (∀ (W : World), Calls Tryz.prog 35 #[.int .u8 (b.toNat : Int), .int .i64 9] W fun e w' => e = .returned (.string (fillN b 9)) ∧ Kp none' W w') := fun W => HFI.out W 9 (by omega)
  by_cases hb1 : b = 1
  · have HTX : Hid (Sop.txt ⟨k0, n, b⟩ = fillN b 9) := by show _ = _; unfold Sop.txt; rw [if_pos hb1, hb1]
    have hys : (fillN b 9).size ≤ 1000 := by rw [fillN_size]; omega
    obtain ⟨y, HY⟩ : ∃ y, Hid (fillN b 9 = y) := ⟨_, rfl⟩
    obtain ⟨y2, HY2⟩ : ∃ y2, Hid (fillN b 256 = y2) := ⟨_, rfl⟩
    rw [HY.out] at hys HF9 HTX
    rw [HY2.out] at HF256
    rw [decide_eq_true hb1] at hbb
    clear hb1
    obtain ⟨E, HE⟩ : ∃ E, Hid (SW.writeE n y = E) := ⟨_, rfl⟩
    have HA : Hid (∀ W : World, Bx w1 own1 W x q B tW tR SW SR QC QP r rr → Calls Tryz.prog 28 #[.pointer (some ⟨r, 0, none⟩), .int .i64 n, .string y] W fun e w' => e = .returned (.int .i64 E) ∧ Bx w1 own1 w' x q B (tW + 1) tR (SW.write n y) SR QC QP r rr) := fun W h => by
      have := h.write h1 n y hys
      rw [HE.out] at this
      exact this
    have HB : Hid (∀ W : World, Bx w1 own1 W x q B (tW + 1) tR (SW.write n y) SR QC QP r rr → Calls Tryz.prog 36 #[.pointer (some ⟨rr, 0, none⟩), .int .i64 n, .string y] W fun e w' => e = .returned (.int .i64 E) ∧ Bx w1 own1 w' x q B (tW + 1) (tR + 1) (SW.write n y) (SR.write n y) QC QP r rr) := fun W h => by
      have := h.rwrite h2 n y hys
      rw [← hal.writeE n y, HE.out] at this
      exact this
    go_upto_region 7 with (first
      | (go_at_call 20; refine HKI.out.mono ?_; rintro e w2 ⟨rfl, hk2⟩)
      | fail)
    have hB2 := HB1.out.keep hk2
    have hv2 := HS2.out w2 _ _ _ _ _ _ hB2
    go_upto_region 8 with (first
      | (go_at_call 35; refine (HF256.out _).mono ?_; rintro e w3 ⟨rfl, hk3⟩)
      | fail)
    have hB3 := hB2.keep hk3
    have hv3 := HS2.out w3 _ _ _ _ _ _ hB3
    go_upto_region 10 with (first
      | (go_at_call 35; refine (HF9.out _).mono ?_; rintro e w6 ⟨rfl, hk6⟩)
      | fail)
    have hB6 := hB3.keep hk6
    have hBd := hB6.keep (Kp.drew none' w6)
    have T0 := HST.out w6.drew _ _ _ _ _ _ hBd
    go_region_held_law (fun W => W.cell? ⟨x, 1, none⟩ = some (.pointer (some ⟨r, 0, none⟩)) ∧ W.cell? ⟨x, 3, none⟩ = some (.pointer (some ⟨rr, 0, none⟩)) ∧ W.cell? ⟨bv, 1, none⟩ = some (.int .i64 n)) (first | assumption) (first
      | (go_at_call 28; refine (HA.out _ hBd).mono ?_; rintro e w4 ⟨rfl, hB4⟩; have T4 := HST.out w4 _ _ _ _ _ _ hB4)
      | (go_at_call 36; refine (HB.out _ hB4).mono ?_; rintro e w5 ⟨rfl, hB5⟩; have T5 := HST.out w5 _ _ _ _ _ _ hB5)
      | fail)
    have hee : (E == E) = true := by simp
    all_goals (
      go_wp2
      go_ret
      refine ⟨⟨_, rfl⟩, ?_⟩
      rw [HTX.out]
      exact HEND.out _ _ _ _ _ hB5)
  · have HTX : Hid (Sop.txt ⟨k0, n, b⟩ = fillN b 256) := by show _ = _; unfold Sop.txt; rw [if_neg hb1]
    have hys : (fillN b 256).size ≤ 1000 := by rw [fillN_size]; omega
    obtain ⟨y, HY⟩ : ∃ y, Hid (fillN b 256 = y) := ⟨_, rfl⟩
    rw [HY.out] at hys HF256 HTX
    rw [decide_eq_false hb1] at hbb
    clear hb1
    obtain ⟨E, HE⟩ : ∃ E, Hid (SW.writeE n y = E) := ⟨_, rfl⟩
    have HA : Hid (∀ W : World, Bx w1 own1 W x q B tW tR SW SR QC QP r rr → Calls Tryz.prog 28 #[.pointer (some ⟨r, 0, none⟩), .int .i64 n, .string y] W fun e w' => e = .returned (.int .i64 E) ∧ Bx w1 own1 w' x q B (tW + 1) tR (SW.write n y) SR QC QP r rr) := fun W h => by
      have := h.write h1 n y hys
      rw [HE.out] at this
      exact this
    have HB : Hid (∀ W : World, Bx w1 own1 W x q B (tW + 1) tR (SW.write n y) SR QC QP r rr → Calls Tryz.prog 36 #[.pointer (some ⟨rr, 0, none⟩), .int .i64 n, .string y] W fun e w' => e = .returned (.int .i64 E) ∧ Bx w1 own1 w' x q B (tW + 1) (tR + 1) (SW.write n y) (SR.write n y) QC QP r rr) := fun W h => by
      have := h.rwrite h2 n y hys
      rw [← hal.writeE n y, HE.out] at this
      exact this
    go_upto_region 7 with (first
      | (go_at_call 20; refine HKI.out.mono ?_; rintro e w2 ⟨rfl, hk2⟩)
      | fail)
    have hB2 := HB1.out.keep hk2
    have hv2 := HS2.out w2 _ _ _ _ _ _ hB2
    go_upto_region 8 with (first
      | (go_at_call 35; refine (HF256.out _).mono ?_; rintro e w3 ⟨rfl, hk3⟩)
      | fail)
    have hB3 := hB2.keep hk3
    have hv3 := HS2.out w3 _ _ _ _ _ _ hB3
    go_upto_region 10 with fail
    have hBd := hB3.keep (Kp.drew none' w3)
    have T0 := HST.out w3.drew _ _ _ _ _ _ hBd
    go_region_held_law (fun W => W.cell? ⟨x, 1, none⟩ = some (.pointer (some ⟨r, 0, none⟩)) ∧ W.cell? ⟨x, 3, none⟩ = some (.pointer (some ⟨rr, 0, none⟩)) ∧ W.cell? ⟨bv, 1, none⟩ = some (.int .i64 n)) (first | assumption) (first
      | (go_at_call 28; refine (HA.out _ hBd).mono ?_; rintro e w4 ⟨rfl, hB4⟩; have T4 := HST.out w4 _ _ _ _ _ _ hB4)
      | (go_at_call 36; refine (HB.out _ hB4).mono ?_; rintro e w5 ⟨rfl, hB5⟩; have T5 := HST.out w5 _ _ _ _ _ _ hB5)
      | fail)
    have hee : (E == E) = true := by simp
    all_goals (
      go_wp2
      go_ret
      refine ⟨⟨_, rfl⟩, ?_⟩
      rw [HTX.out]
      exact HEND.out _ _ _ _ _ hB5)
set_option maxRecDepth 100000 in
set_option maxHeartbeats 1600000 in
theorem gstep2 {w : World} {own : Nat → Nat} {x : Nat} {q : Cq} {B tW tR : Nat} {SW SR : Sw} {QC QP : List ByteArray} {r rr : Nat} (o : Sop) (H : Bp w own x q B tW tR SW SR QC QP r rr) (hal : Alike SW SR) (h1 : tW ≤ 1000) (h2 : tR ≤ 900) (hkd : o.kind = 2) :
    Calls Tryz.prog 11 #[.pointer (some ⟨x, 0, none⟩), .agg o.cells] w fun e w' => IsB e ∧ Bx w own w' x q B (tW + 1) (tR + 1) (SW.does o) (SR.does o) QC QP r rr := by
  have hki := skind_any o (w.alloc (.cells o.cells 31))
  have cell := new_cell w o.cells 31
  have ka := Kp.alloc none' w (.cells o.cells 31)
  have HB1 : Hid (Bx (w.alloc (.cells o.cells 31)) (grow own w.heap.size 0) (w.alloc (.cells o.cells 31)) x q B tW tR SW SR QC QP r rr) := Bx.refl (H.keep ka)
  have HEND : Hid (∀ (w' : World) (S1 S2 : Sw) (Q1 Q2 : List ByteArray), Bx (w.alloc (.cells o.cells 31)) (grow own w.heap.size 0) w' x q B (tW + 1) (tR + 1) S1 S2 Q1 Q2 r rr → Bx w own w' x q B (tW + 1) (tR + 1) S1 S2 Q1 Q2 r rr) := fun w' S1 S2 Q1 Q2 h => Bx.from_ (fun k hk => grow_old hk) (ka.mono (fun _ _ h => h.elim)) h
  have HO0 : Hid ((grow own w.heap.size 0) w.heap.size = 0) := grow_new (Nat.le_refl _)
  rw [hkd] at hki
  unfold Sw.does
  rw [hkd]
  obtain ⟨k0, n, b⟩ := o
  unfold Sop.cells at hki cell HB1 HEND ⊢
  dsimp only at hki cell HB1 HEND ⊢
  have v1 := cell 1 _ rfl
  have v2 := cell 2 _ rfl
  obtain ⟨bv, HBV⟩ : ∃ bv, Hid (w.heap.size = bv) := ⟨_, rfl⟩
  obtain ⟨w1, HW1⟩ : ∃ w1, Hid (w.alloc (.cells #[.int .i64 k0, .int .i64 n, .int .u8 (b.toNat : Int)] 31) = w1) := ⟨_, rfl⟩
  rw [HW1.out] at hki HB1 HEND v1 v2
  rw [HBV.out] at v1 v2 HO0 HB1 HEND
  obtain ⟨own1, HOW⟩ : ∃ own1, Hid (grow own bv 0 = own1) := ⟨_, rfl⟩
  rw [HOW.out] at HB1 HEND HO0
  have HST : Hid (∀ (W : World) (tW tR : Nat) (SW SR : Sw) (QC QP : List ByteArray), Bx w1 own1 W x q B tW tR SW SR QC QP r rr → W.cell? ⟨x, 1, none⟩ = some (.pointer (some ⟨r, 0, none⟩)) ∧ W.cell? ⟨x, 3, none⟩ = some (.pointer (some ⟨rr, 0, none⟩)) ∧ W.cell? ⟨bv, 1, none⟩ = some (.int .i64 n)) := fun W _ _ _ _ _ _ h => ⟨h.cells.2.1, h.cells.2.2, h.stay HO0.out v1⟩
  have HV2 := hide v2
  have HS2 : Hid (∀ (W : World) (tW tR : Nat) (SW SR : Sw) (QC QP : List ByteArray), Bx w1 own1 W x q B tW tR SW SR QC QP r rr → W.cell? ⟨bv, 2, none⟩ = some (.int .u8 (b.toNat : Int))) := fun W _ _ _ _ _ _ h => h.stay HO0.out HV2.out
  have HKI := hide hki
  clear H cell ka hkd hki
  go_enter Tryz.func11, Tryz.ntmps11
  go_upto_region 1 with fail
  rw [HW1.out, HBV.out]
  have v0 : w1.cell? ⟨bv, 0, none⟩ = some (.int .i64 k0) := by
    rw [← HW1.out, ← HBV.out]
    exact new_cell w _ _ 0 _ rfl
  obtain ⟨X, HX⟩ : ∃ X, Hid (SW.takeE.1 = X) := ⟨_, rfl⟩
  obtain ⟨E, HE⟩ : ∃ E, Hid (SW.takeE.2 = E) := ⟨_, rfl⟩
  have HA : Hid (∀ W : World, Bx w1 own1 W x q B tW tR SW SR QC QP r rr → Calls Tryz.prog 27 #[.pointer (some ⟨r, 0, none⟩)] W fun e w' => e = .returned (.tuple #[.int .i64 X, .int .i64 E]) ∧ Bx w1 own1 w' x q B (tW + 1) tR (SW.take (fillB 0)) SR QC QP r rr) := fun W h => by
    have := h.take h1
    rw [HX.out, HE.out] at this
    exact this
  have HB : Hid (∀ W : World, Bx w1 own1 W x q B (tW + 1) tR (SW.take (fillB 0)) SR QC QP r rr → Calls Tryz.prog 37 #[.pointer (some ⟨rr, 0, none⟩)] W fun e w' => e = .returned (.tuple #[.int .i64 X, .int .i64 E]) ∧ Bx w1 own1 w' x q B (tW + 1) (tR + 1) (SW.take (fillB 0)) (SR.take (fillB 0)) QC QP r rr) := fun W h => by
    have := h.rtake h2
    rw [← hal.takeE, HX.out, HE.out] at this
    exact this
  go_upto_region 12 with (first
    | (go_at_call 20; refine HKI.out.mono ?_; rintro e w2 ⟨rfl, hk2⟩)
    | fail)
  have hB2 := HB1.out.keep hk2
  have c2 := hB2.cells
  have c21 := c2.2.1
  clear c2
  go_upto_region 13 with (first
    | (go_at_call 27; refine (HA.out _ hB2).mono ?_; rintro e w4 ⟨rfl, hB4⟩)
    | fail)
  have c4 := hB4.cells
  have c43 := c4.2.2
  clear c4
  have hxx : (X == X) = true := by simp
  have hee : (E == E) = true := by simp
  go_wp2_with (first
    | (go_at_call 37; refine (HB.out _ hB4).mono ?_; rintro e w5 ⟨rfl, hB5⟩)
    | fail)
  go_ret
  refine ⟨⟨_, rfl⟩, ?_⟩
  exact HEND.out _ _ _ _ _ hB5
set_option maxRecDepth 100000 in
set_option maxHeartbeats 1600000 in
theorem gstep3 {w : World} {own : Nat → Nat} {x : Nat} {q : Cq} {B tW tR : Nat} {SW SR : Sw} {QC QP : List ByteArray} {r rr : Nat} (o : Sop) (H : Bp w own x q B tW tR SW SR QC QP r rr) (hal : Alike SW SR) (h1 : tW ≤ 1000) (h2 : tR ≤ 900) (hkd : o.kind = 3) :
    Calls Tryz.prog 11 #[.pointer (some ⟨x, 0, none⟩), .agg o.cells] w fun e w' => IsB e ∧ Bx w own w' x q B (tW + 1) (tR + 1) (SW.does o) (SR.does o) QC QP r rr := by
  have hki := skind_any o (w.alloc (.cells o.cells 31))
  have cell := new_cell w o.cells 31
  have ka := Kp.alloc none' w (.cells o.cells 31)
  have HB1 : Hid (Bx (w.alloc (.cells o.cells 31)) (grow own w.heap.size 0) (w.alloc (.cells o.cells 31)) x q B tW tR SW SR QC QP r rr) := Bx.refl (H.keep ka)
  have HEND : Hid (∀ (w' : World) (S1 S2 : Sw) (Q1 Q2 : List ByteArray), Bx (w.alloc (.cells o.cells 31)) (grow own w.heap.size 0) w' x q B (tW + 1) (tR + 1) S1 S2 Q1 Q2 r rr → Bx w own w' x q B (tW + 1) (tR + 1) S1 S2 Q1 Q2 r rr) := fun w' S1 S2 Q1 Q2 h => Bx.from_ (fun k hk => grow_old hk) (ka.mono (fun _ _ h => h.elim)) h
  have HO0 : Hid ((grow own w.heap.size 0) w.heap.size = 0) := grow_new (Nat.le_refl _)
  rw [hkd] at hki
  unfold Sw.does
  rw [hkd]
  obtain ⟨k0, n, b⟩ := o
  unfold Sop.cells at hki cell HB1 HEND ⊢
  dsimp only at hki cell HB1 HEND ⊢
  have v1 := cell 1 _ rfl
  have v2 := cell 2 _ rfl
  obtain ⟨bv, HBV⟩ : ∃ bv, Hid (w.heap.size = bv) := ⟨_, rfl⟩
  obtain ⟨w1, HW1⟩ : ∃ w1, Hid (w.alloc (.cells #[.int .i64 k0, .int .i64 n, .int .u8 (b.toNat : Int)] 31) = w1) := ⟨_, rfl⟩
  rw [HW1.out] at hki HB1 HEND v1 v2
  rw [HBV.out] at v1 v2 HO0 HB1 HEND
  obtain ⟨own1, HOW⟩ : ∃ own1, Hid (grow own bv 0 = own1) := ⟨_, rfl⟩
  rw [HOW.out] at HB1 HEND HO0
  have HST : Hid (∀ (W : World) (tW tR : Nat) (SW SR : Sw) (QC QP : List ByteArray), Bx w1 own1 W x q B tW tR SW SR QC QP r rr → W.cell? ⟨x, 1, none⟩ = some (.pointer (some ⟨r, 0, none⟩)) ∧ W.cell? ⟨x, 3, none⟩ = some (.pointer (some ⟨rr, 0, none⟩)) ∧ W.cell? ⟨bv, 1, none⟩ = some (.int .i64 n)) := fun W _ _ _ _ _ _ h => ⟨h.cells.2.1, h.cells.2.2, h.stay HO0.out v1⟩
  have HV2 := hide v2
  have HS2 : Hid (∀ (W : World) (tW tR : Nat) (SW SR : Sw) (QC QP : List ByteArray), Bx w1 own1 W x q B tW tR SW SR QC QP r rr → W.cell? ⟨bv, 2, none⟩ = some (.int .u8 (b.toNat : Int))) := fun W _ _ _ _ _ _ h => h.stay HO0.out HV2.out
  have HKI := hide hki
  clear H cell ka hkd hki
  go_enter Tryz.func11, Tryz.ntmps11
  go_upto_region 1 with fail
  rw [HW1.out, HBV.out]
  have v0 : w1.cell? ⟨bv, 0, none⟩ = some (.int .i64 k0) := by
    rw [← HW1.out, ← HBV.out]
    exact new_cell w _ _ 0 _ rfl
  obtain ⟨E, HE⟩ : ∃ E, Hid (SW.dropE n = E) := ⟨_, rfl⟩
  have HA : Hid (∀ W : World, Bx w1 own1 W x q B tW tR SW SR QC QP r rr → Calls Tryz.prog 29 #[.pointer (some ⟨r, 0, none⟩), .int .i64 n] W fun e w' => e = .returned (.int .i64 E) ∧ Bx w1 own1 w' x q B (tW + 1) tR (SW.drop n) SR QC QP r rr) := fun W h => by
    have := h.drop h1 n
    rw [HE.out] at this
    exact this
  have HB : Hid (∀ W : World, Bx w1 own1 W x q B (tW + 1) tR (SW.drop n) SR QC QP r rr → Calls Tryz.prog 38 #[.pointer (some ⟨rr, 0, none⟩), .int .i64 n] W fun e w' => e = .returned (.int .i64 E) ∧ Bx w1 own1 w' x q B (tW + 1) (tR + 1) (SW.drop n) (SR.drop n) QC QP r rr) := fun W h => by
    have := h.rdrop h2 n
    rw [← hal.dropE n, HE.out] at this
    exact this
  go_upto_region 16 with (first
    | (go_at_call 20; refine HKI.out.mono ?_; rintro e w2 ⟨rfl, hk2⟩)
    | fail)
  have hB2 := HB1.out.keep hk2
  have hBd := hB2.keep (Kp.drew none' w2)
  have T0 := HST.out w2.drew _ _ _ _ _ _ hBd
  go_region_held_law (fun W => W.cell? ⟨x, 1, none⟩ = some (.pointer (some ⟨r, 0, none⟩)) ∧ W.cell? ⟨x, 3, none⟩ = some (.pointer (some ⟨rr, 0, none⟩)) ∧ W.cell? ⟨bv, 1, none⟩ = some (.int .i64 n)) (first | assumption) (first
    | (go_at_call 29; refine (HA.out _ hBd).mono ?_; rintro e w4 ⟨rfl, hB4⟩; have T4 := HST.out w4 _ _ _ _ _ _ hB4)
    | (go_at_call 38; refine (HB.out _ hB4).mono ?_; rintro e w5 ⟨rfl, hB5⟩; have T5 := HST.out w5 _ _ _ _ _ _ hB5)
    | fail)
  have hee : (E == E) = true := by simp
  all_goals (
    go_wp2
    go_ret
    refine ⟨⟨_, rfl⟩, ?_⟩
    exact HEND.out _ _ _ _ _ hB5)
set_option maxRecDepth 100000 in
set_option maxHeartbeats 1600000 in
theorem gstep4 {w : World} {own : Nat → Nat} {x : Nat} {q : Cq} {B tW tR : Nat} {SW SR : Sw} {QC QP : List ByteArray} {r rr : Nat} (o : Sop) (H : Bp w own x q B tW tR SW SR QC QP r rr) (hal : Alike SW SR) (h1 : tW ≤ 1000) (h2 : tR ≤ 900) (hkd : o.kind = 4) :
    Calls Tryz.prog 11 #[.pointer (some ⟨x, 0, none⟩), .agg o.cells] w fun e w' => IsB e ∧ Bx w own w' x q B (tW + 1) (tR + 1) (SW.does o) (SR.does o) QC QP r rr := by
  have hki := skind_any o (w.alloc (.cells o.cells 31))
  have cell := new_cell w o.cells 31
  have ka := Kp.alloc none' w (.cells o.cells 31)
  have HB1 : Hid (Bx (w.alloc (.cells o.cells 31)) (grow own w.heap.size 0) (w.alloc (.cells o.cells 31)) x q B tW tR SW SR QC QP r rr) := Bx.refl (H.keep ka)
  have HEND : Hid (∀ (w' : World) (S1 S2 : Sw) (Q1 Q2 : List ByteArray), Bx (w.alloc (.cells o.cells 31)) (grow own w.heap.size 0) w' x q B (tW + 1) (tR + 1) S1 S2 Q1 Q2 r rr → Bx w own w' x q B (tW + 1) (tR + 1) S1 S2 Q1 Q2 r rr) := fun w' S1 S2 Q1 Q2 h => Bx.from_ (fun k hk => grow_old hk) (ka.mono (fun _ _ h => h.elim)) h
  have HO0 : Hid ((grow own w.heap.size 0) w.heap.size = 0) := grow_new (Nat.le_refl _)
  rw [hkd] at hki
  unfold Sw.does
  rw [hkd]
  obtain ⟨k0, n, b⟩ := o
  unfold Sop.cells at hki cell HB1 HEND ⊢
  dsimp only at hki cell HB1 HEND ⊢
  have v1 := cell 1 _ rfl
  have v2 := cell 2 _ rfl
  obtain ⟨bv, HBV⟩ : ∃ bv, Hid (w.heap.size = bv) := ⟨_, rfl⟩
  obtain ⟨w1, HW1⟩ : ∃ w1, Hid (w.alloc (.cells #[.int .i64 k0, .int .i64 n, .int .u8 (b.toNat : Int)] 31) = w1) := ⟨_, rfl⟩
  rw [HW1.out] at hki HB1 HEND v1 v2
  rw [HBV.out] at v1 v2 HO0 HB1 HEND
  obtain ⟨own1, HOW⟩ : ∃ own1, Hid (grow own bv 0 = own1) := ⟨_, rfl⟩
  rw [HOW.out] at HB1 HEND HO0
  have HST : Hid (∀ (W : World) (tW tR : Nat) (SW SR : Sw) (QC QP : List ByteArray), Bx w1 own1 W x q B tW tR SW SR QC QP r rr → W.cell? ⟨x, 1, none⟩ = some (.pointer (some ⟨r, 0, none⟩)) ∧ W.cell? ⟨x, 3, none⟩ = some (.pointer (some ⟨rr, 0, none⟩)) ∧ W.cell? ⟨bv, 1, none⟩ = some (.int .i64 n)) := fun W _ _ _ _ _ _ h => ⟨h.cells.2.1, h.cells.2.2, h.stay HO0.out v1⟩
  have HV2 := hide v2
  have HS2 : Hid (∀ (W : World) (tW tR : Nat) (SW SR : Sw) (QC QP : List ByteArray), Bx w1 own1 W x q B tW tR SW SR QC QP r rr → W.cell? ⟨bv, 2, none⟩ = some (.int .u8 (b.toNat : Int))) := fun W _ _ _ _ _ _ h => h.stay HO0.out HV2.out
  have HKI := hide hki
  clear H cell ka hkd hki
  go_enter Tryz.func11, Tryz.ntmps11
  go_upto_region 1 with fail
  rw [HW1.out, HBV.out]
  have v0 : w1.cell? ⟨bv, 0, none⟩ = some (.int .i64 k0) := by
    rw [← HW1.out, ← HBV.out]
    exact new_cell w _ _ 0 _ rfl
  have hmn : ((min (max n 0) 300).toNat : Int) = min (max n 0) 300 := by omega
  have HFI := sfill_any b (min (max n 0) 300).toNat
  rw [hmn] at HFI
  have HF : Hid (∀ (W : World), Calls Tryz.prog 35 #[.int .u8 (b.toNat : Int), .int .i64 (min (max n 0) 300)] W fun e w' => e = .returned (.string (fillN b (min (max n 0) 300).toNat)) ∧ Kp none' W w') := fun W => HFI W (by omega)
  have HTX : Hid (Sop.hd ⟨k0, n, b⟩ = fillN b (min (max n 0) 300).toNat) := by show _ = _; rfl
  have hys : (fillN b (min (max n 0) 300).toNat).size ≤ 1000 := by rw [fillN_size]; omega
  obtain ⟨y, HY⟩ : ∃ y, Hid (fillN b (min (max n 0) 300).toNat = y) := ⟨_, rfl⟩
  rw [HY.out] at hys HF HTX
  clear HFI hmn
  obtain ⟨E, HE⟩ : ∃ E, Hid (SW.setHeadE y = E) := ⟨_, rfl⟩
  have HA : Hid (∀ W : World, Bx w1 own1 W x q B tW tR SW SR QC QP r rr → Calls Tryz.prog 30 #[.pointer (some ⟨r, 0, none⟩), .string y] W fun e w' => e = .returned (.int .i64 E) ∧ Bx w1 own1 w' x q B (tW + 1) tR (SW.setHead y) SR QC QP r rr) := fun W h => by
    have := h.setHead h1 y hys
    rw [HE.out] at this
    exact this
  have HB : Hid (∀ W : World, Bx w1 own1 W x q B (tW + 1) tR (SW.setHead y) SR QC QP r rr → Calls Tryz.prog 39 #[.pointer (some ⟨rr, 0, none⟩), .string y] W fun e w' => e = .returned (.int .i64 E) ∧ Bx w1 own1 w' x q B (tW + 1) (tR + 1) (SW.setHead y) (SR.setHead y) QC QP r rr) := fun W h => by
    have := h.rsetHead h2 y hys
    rw [← hal.setHeadE y, HE.out] at this
    exact this
  go_upto_region 18 with (first
    | (go_at_call 20; refine HKI.out.mono ?_; rintro e w2 ⟨rfl, hk2⟩)
    | fail)
  have hB2 := HB1.out.keep hk2
  have hv2 := HS2.out w2 _ _ _ _ _ _ hB2
  have hv1 := (HST.out w2 _ _ _ _ _ _ hB2).2.2
  go_upto_region 19 with (first
    | (go_at_call 35; refine (HF.out _).mono ?_; rintro e w3 ⟨rfl, hk3⟩)
    | fail)
  have hB3 := hB2.keep hk3
  have hBd := hB3.keep (Kp.drew none' w3)
  have T0 := HST.out w3.drew _ _ _ _ _ _ hBd
  go_region_held_law (fun W => W.cell? ⟨x, 1, none⟩ = some (.pointer (some ⟨r, 0, none⟩)) ∧ W.cell? ⟨x, 3, none⟩ = some (.pointer (some ⟨rr, 0, none⟩)) ∧ W.cell? ⟨bv, 1, none⟩ = some (.int .i64 n)) (first | assumption) (first
    | (go_at_call 30; refine (HA.out _ hBd).mono ?_; rintro e w4 ⟨rfl, hB4⟩; have T4 := HST.out w4 _ _ _ _ _ _ hB4)
    | (go_at_call 39; refine (HB.out _ hB4).mono ?_; rintro e w5 ⟨rfl, hB5⟩; have T5 := HST.out w5 _ _ _ _ _ _ hB5)
    | fail)
  have hee : (E == E) = true := by simp
  all_goals (
    go_wp2
    go_ret
    refine ⟨⟨_, rfl⟩, ?_⟩
    rw [HTX.out]
    exact HEND.out _ _ _ _ _ hB5)
set_option maxRecDepth 100000 in
set_option maxHeartbeats 1600000 in
theorem gstep5 {w : World} {own : Nat → Nat} {x : Nat} {q : Cq} {B tW tR : Nat} {SW SR : Sw} {QC QP : List ByteArray} {r rr : Nat} (o : Sop) (H : Bp w own x q B tW tR SW SR QC QP r rr) (hal : Alike SW SR) (h1 : tW ≤ 1000) (h2 : tR ≤ 900) (hkd : o.kind = 5) :
    Calls Tryz.prog 11 #[.pointer (some ⟨x, 0, none⟩), .agg o.cells] w fun e w' => IsB e ∧ Bx w own w' x q B (tW + 1) (tR + 1) (SW.does o) (SR.does o) QC QP r rr := by
  have hki := skind_any o (w.alloc (.cells o.cells 31))
  have cell := new_cell w o.cells 31
  have ka := Kp.alloc none' w (.cells o.cells 31)
  have HB1 : Hid (Bx (w.alloc (.cells o.cells 31)) (grow own w.heap.size 0) (w.alloc (.cells o.cells 31)) x q B tW tR SW SR QC QP r rr) := Bx.refl (H.keep ka)
  have HEND : Hid (∀ (w' : World) (S1 S2 : Sw) (Q1 Q2 : List ByteArray), Bx (w.alloc (.cells o.cells 31)) (grow own w.heap.size 0) w' x q B (tW + 1) (tR + 1) S1 S2 Q1 Q2 r rr → Bx w own w' x q B (tW + 1) (tR + 1) S1 S2 Q1 Q2 r rr) := fun w' S1 S2 Q1 Q2 h => Bx.from_ (fun k hk => grow_old hk) (ka.mono (fun _ _ h => h.elim)) h
  have HO0 : Hid ((grow own w.heap.size 0) w.heap.size = 0) := grow_new (Nat.le_refl _)
  rw [hkd] at hki
  unfold Sw.does
  rw [hkd]
  obtain ⟨k0, n, b⟩ := o
  unfold Sop.cells at hki cell HB1 HEND ⊢
  dsimp only at hki cell HB1 HEND ⊢
  have v1 := cell 1 _ rfl
  have v2 := cell 2 _ rfl
  obtain ⟨bv, HBV⟩ : ∃ bv, Hid (w.heap.size = bv) := ⟨_, rfl⟩
  obtain ⟨w1, HW1⟩ : ∃ w1, Hid (w.alloc (.cells #[.int .i64 k0, .int .i64 n, .int .u8 (b.toNat : Int)] 31) = w1) := ⟨_, rfl⟩
  rw [HW1.out] at hki HB1 HEND v1 v2
  rw [HBV.out] at v1 v2 HO0 HB1 HEND
  obtain ⟨own1, HOW⟩ : ∃ own1, Hid (grow own bv 0 = own1) := ⟨_, rfl⟩
  rw [HOW.out] at HB1 HEND HO0
  have HST : Hid (∀ (W : World) (tW tR : Nat) (SW SR : Sw) (QC QP : List ByteArray), Bx w1 own1 W x q B tW tR SW SR QC QP r rr → W.cell? ⟨x, 1, none⟩ = some (.pointer (some ⟨r, 0, none⟩)) ∧ W.cell? ⟨x, 3, none⟩ = some (.pointer (some ⟨rr, 0, none⟩)) ∧ W.cell? ⟨bv, 1, none⟩ = some (.int .i64 n)) := fun W _ _ _ _ _ _ h => ⟨h.cells.2.1, h.cells.2.2, h.stay HO0.out v1⟩
  have HV2 := hide v2
  have HS2 : Hid (∀ (W : World) (tW tR : Nat) (SW SR : Sw) (QC QP : List ByteArray), Bx w1 own1 W x q B tW tR SW SR QC QP r rr → W.cell? ⟨bv, 2, none⟩ = some (.int .u8 (b.toNat : Int))) := fun W _ _ _ _ _ _ h => h.stay HO0.out HV2.out
  have HKI := hide hki
  clear H cell ka hkd hki
  go_enter Tryz.func11, Tryz.ntmps11
  go_upto_region 1 with fail
  rw [HW1.out, HBV.out]
  have v0 : w1.cell? ⟨bv, 0, none⟩ = some (.int .i64 k0) := by
    rw [← HW1.out, ← HBV.out]
    exact new_cell w _ _ 0 _ rfl
  obtain ⟨E, HE⟩ : ∃ E, Hid (SW.saveN = E) := ⟨_, rfl⟩
  obtain ⟨E2, HE2⟩ : ∃ E2, Hid (SR.saveN = E2) := ⟨_, rfl⟩
  have HA : Hid (∀ W : World, Bx w1 own1 W x q B tW tR SW SR QC QP r rr → Calls Tryz.prog 23 #[.pointer (some ⟨r, 0, none⟩)] W fun e w' => e = .returned (.int .i64 E) ∧ Bx w1 own1 w' x q B (tW + 1) tR SW.save SR QC QP r rr) := fun W h => by
    have := h.save h1
    rw [HE.out] at this
    exact this
  have HB : Hid (∀ W : World, Bx w1 own1 W x q B (tW + 1) tR SW.save SR QC QP r rr → Calls Tryz.prog 40 #[.pointer (some ⟨rr, 0, none⟩)] W fun e w' => e = .returned (.int .i64 E2) ∧ Bx w1 own1 w' x q B (tW + 1) (tR + 1) SW.save SR.save QC QP r rr) := fun W h => by
    have := h.rsave h2
    rw [HE2.out] at this
    exact this
  go_upto_region 21 with (first
    | (go_at_call 20; refine HKI.out.mono ?_; rintro e w2 ⟨rfl, hk2⟩)
    | fail)
  have hB2 := HB1.out.keep hk2
  have hBd := hB2.keep (Kp.drew none' w2)
  have T0 := HST.out w2.drew _ _ _ _ _ _ hBd
  go_region_held_law (fun W => W.cell? ⟨x, 1, none⟩ = some (.pointer (some ⟨r, 0, none⟩)) ∧ W.cell? ⟨x, 3, none⟩ = some (.pointer (some ⟨rr, 0, none⟩)) ∧ W.cell? ⟨bv, 1, none⟩ = some (.int .i64 n)) (first | assumption) (first
    | (go_at_call 23; refine (HA.out _ hBd).mono ?_; rintro e w4 ⟨rfl, hB4⟩; have T4 := HST.out w4 _ _ _ _ _ _ hB4)
    | (go_at_call 40; refine (HB.out _ hB4).mono ?_; rintro e w5 ⟨rfl, hB5⟩; have T5 := HST.out w5 _ _ _ _ _ _ hB5)
    | fail)
  all_goals (
    go_wp2
    go_ret
    refine ⟨⟨_, rfl⟩, ?_⟩
    exact HEND.out _ _ _ _ _ hB5)
theorem gstep_any {w : World} {own : Nat → Nat} {x : Nat} {q : Cq} {B tW tR : Nat} {SW SR : Sw} {QC QP : List ByteArray} {r rr : Nat} (o : Sop) (H : Bp w own x q B tW tR SW SR QC QP r rr) (hal : Alike SW SR) (h1 : tW ≤ 1000) (h2 : tR ≤ 900) (h6 : o.kind ≠ 6) (h7 : o.kind ≠ 7) :
    Calls Tryz.prog 11 #[.pointer (some ⟨x, 0, none⟩), .agg o.cells] w fun e w' => IsB e ∧ Bx w own w' x q B (tW + 1) (tR + 1) (SW.does o) (SR.does o) QC QP r rr := by
  rcases o.kinds with h | h | h | h | h | h | h | h
  · exact gstep0 o H hal h1 h2 h
  · exact gstep1 o H hal h1 h2 h
  · exact gstep2 o H hal h1 h2 h
  · exact gstep3 o H hal h1 h2 h
  · exact gstep4 o H hal h1 h2 h
  · exact gstep5 o H hal h1 h2 h
  · contradiction
  · contradiction

end Go.Proofs.YtmnedhlgplkfhaaGreat
