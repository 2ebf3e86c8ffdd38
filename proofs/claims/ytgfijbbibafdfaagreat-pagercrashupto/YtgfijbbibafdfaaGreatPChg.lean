/- Contract, over the turned program: a batch's changes. Conditions: those that the theorem states. -/
import Derived.Test.YtgfijbbibafdfaaGreatPRef
namespace Go.Proofs.YtgfijbbibafdfaaGreat
open Go.RowKit
set_option linter.unusedVariables false

def u8V (c : UInt8) : Value := .int .u8 (c.toNat : Int)
/-- A batch: where its two lists lie, and what they hold. -/
structure Bt where
  pv : Value
  ps : List Int
  bv : Value
  bs : List UInt8
def Bt.cells (b : Bt) : Array Value := #[b.pv, b.bv]
structure Bt.ok (b : Bt) (B : Nat) (w : World) : Prop where
  hp : Sl (Value.int .i64) B w b.pv b.ps
  hb : Sl u8V B w b.bv b.bs
  hi : i64s b.ps
theorem Bt.ok.kept {b : Bt} {B : Nat} {w w' : World} {S : Nat → Prop} (h : b.ok B w) (hk : Kp S w w') (hS : ∀ k, k < B → ¬ S k) : b.ok B w' := ⟨h.hp.kept hk hS, h.hb.kept hk hS, h.hi⟩
theorem Bt.ok.keptN {b : Bt} {B : Nat} {w w' : World} (h : b.ok B w) (hk : Kp none' w w') : b.ok B w' := h.kept hk (fun _ _ h => h)
/-- Its changes. -/
def chgL (ps : List Int) (bs : List UInt8) : List Chg := ps.mapIdx fun i z => ⟨z, fillB (bs.getD i (UInt8.ofNat i))⟩
theorem chgL_len (ps : List Int) (bs : List UInt8) : (chgL ps bs).length = ps.length := by simp [chgL]
theorem chgL_at (ps : List Int) (bs : List UInt8) (k : Nat) (h : k < ps.length) : (chgL ps bs)[k]'(by rw [chgL_len]; exact h) = ⟨ps[k], fillB (bs.getD k (UInt8.ofNat k))⟩ := by simp [chgL]
theorem chgL_take (ps : List Int) (bs : List UInt8) (k : Nat) (h : k < ps.length) : (chgL ps bs).take (k + 1) = (chgL ps bs).take k ++ [⟨ps[k], fillB (bs.getD k (UInt8.ofNat k))⟩] := by
  rw [List.take_succ_eq_append_getElem (by rw [chgL_len]; exact h), chgL_at ps bs k h]
theorem chgL_pages (ps : List Int) (bs : List UInt8) : (chgL ps bs).map Chg.page = ps := by
  refine List.ext_getElem (by rw [List.length_map, chgL_len]) fun k h1 h2 => ?_
  rw [List.getElem_map, chgL_at ps bs k h2]
theorem chgL_size (ps : List Int) (bs : List UInt8) : ∀ c ∈ chgL ps bs, c.data.size = 256 := by
  intro c hc
  obtain ⟨k, hk, rfl⟩ := List.getElem_of_mem hc
  rw [chgL_len] at hk
  rw [chgL_at ps bs k hk]
  exact fillB_size _
theorem infoRC : (Tryz.prog.info? 72).map (fun i => (i.zero, i.size, i.bytes)) = some (some (.agg #[.int .i64 0, .string ByteArray.empty]), 2, 24) := by kernel_rfl
theorem src_two {P : Program} (w : World) (t e : TypeId) (ht : P.underlying t = some (.slice e)) (x y : Value) (hx : x.oneCell' = true) (hy : y.oneCell' = true) (g : Nat) (hg : w.heap.size = g) : Src P 2 t (.slice (some ⟨g, 0, none⟩) 1 1) 1 [x, y] (w.alloc (.cells #[x, y] e)) := by
  subst hg
  refine Src.ofSlice (e' := e) _ ht ⟨w.heap.size, 0, none⟩ 1 1 [x, y] (by simp) ?_ (by intro u hu; simp at hu; rcases hu with rfl | rfl <;> assumption)
  intro j u hj
  match j, hj with
  | 0, hj => simp at hj; subst hj; simp [Addr.add]
  | 1, hj => simp at hj; subst hj; simp [Addr.add]
  | (j + 2), hj => simp at hj
theorem OwC.snoc {t : TypeId} {w : World} {base : Nat} {v : Value} {l : List Chg} {x : Chg} (h : w.ownsRow base t 2 v (l.length + 1) (ccs l ++ [.int .i64 x.page, .string x.data])) : OwC t w base v (l ++ [x]) := by
  unfold OwC
  rw [ccs_append, List.length_append]
  exact h

set_option maxRecDepth 100000 in
set_option maxHeartbeats 3200000 in
theorem changes_any (b : Bt) (B : Nat) (w : World) (hb : b.ok B w) (hB : B ≤ w.heap.size) (hl : b.ps.length ≤ 1048576) :
    Calls Tryz.prog 11 #[.agg b.cells] w fun e w' => ∃ x y, e = .returned (.tuple #[x, y]) ∧ OwC 56 w' w.heap.size x (chgL b.ps b.bs) ∧ OwC 72 w' w.heap.size y (chgL b.ps b.bs) ∧ Kp none' w w' := by
  obtain ⟨pv, ps, bv, bs⟩ := b
  have hp := hb.hp
  have hbb := hb.hb
  clear hb
  dsimp only at hp hbb hl
  unfold Bt.cells
  dsimp only
  obtain ⟨pa, pc, rfl, _, _, hpa'⟩ := hp
  obtain ⟨ba, bc, rfl, hbc1, hbc2, hba'⟩ := hbb
  have hbsz : bs.length ≤ maxLen := Nat.le_trans hbc1 hbc2
  unfold maxLen at hbsz
  have hpa := hide hpa'
  have hba := hide hba'
  clear hpa' hba'
  have hka := Kp.alloc none' w (.cells #[.slice pa ps.length pc, .slice ba bs.length bc] 41)
  have hbl : (w.alloc (.cells #[.slice pa ps.length pc, .slice ba bs.length bc] 41)).heap[w.heap.size]? = some (.cells #[.slice pa ps.length pc, .slice ba bs.length bc] 41 (0, 0)) := heap_alloc_new w _
  obtain ⟨wa, Ha⟩ : ∃ wa, Hid (w.alloc (.cells #[.slice pa ps.length pc, .slice ba bs.length bc] 41) = wa) := ⟨_, rfl⟩
  rw [Ha.out] at hka hbl
  have c0 : wa.cell? ⟨w.heap.size, 0, none⟩ = some (.slice pa ps.length pc) := by rw [cell_of_row _ _ _ _ _ _ hbl]; rfl
  have c1 : wa.cell? ⟨w.heap.size, 1, none⟩ = some (.slice ba bs.length bc) := by rw [cell_of_row _ _ _ _ _ _ hbl]; rfl
  obtain ⟨b1, HG⟩ : ∃ b1, Hid (w.heap.size = b1) := ⟨_, rfl⟩
  rw [HG.out] at c0 c1 hB ⊢
  obtain ⟨i0, hi, hz0, hz1, hz2⟩ := info_parts infoChg
  obtain ⟨j0, hj, hy0, hy1, hy2⟩ := info_parts infoRC
  have HAs : Hid (wa.heap.size = b1 + 1) := by show _ = _; rw [← Ha.out, ← HG.out]; simp
  clear hbl
  go_enter Tryz.func11, Tryz.ntmps11
  go_upto_region 1 with fail
  rw [Ha.out, HG.out]
  go_wp2
  go_loopw [4, 5, 6] (fun x y t wr => ∃ k : Nat, k ≤ ps.length ∧ t = .int .i64 k ∧ OwC 56 wr (b1 + 1) x ((chgL ps bs).take k) ∧ OwC 72 wr (b1 + 1) y ((chgL ps bs).take k) ∧ (∀ z, x.ownBlock = some z → y.ownBlock ≠ some z) ∧ Kp none' w wr ∧ Kp none' wa wr) (fun _ _ t _ => ps.length - (intOf t).toNat)
  case atStart => exact ⟨0, Nat.zero_le _, rfl, OwC.nil _ _ _, OwC.nil _ _ _, (fun z h => by cases h), hka, Kp.refl _ _⟩
  case round =>
    obtain ⟨k, hk, rfl, hX, hY, hXY, hK, hKa⟩ := hrel
    have e0 := hKa.cell c0 (fun h => h)
    have e1 := hKa.cell c1 (fun h => h)
    by_cases hlt : k < ps.length
    · have hki : (k : Int) < (ps.length : Int) := by omega
      obtain ⟨bp, op, rfl, hbp, hcp'⟩ := hpa.out k hlt
      have hcp := hK.cell hcp' (fun h => h)
      have HTK := hide (chgL_take ps bs k hlt)
      have HTL : Hid (((chgL ps bs).take k).length = k) := by show _ = _; rw [List.length_take, chgL_len]; omega
      have HU : Hid (IntKind.u8.wrap (k : Int) = ((UInt8.ofNat k).toNat : Int)) := by
        show _ = _
        rw [show (UInt8.ofNat k).toNat = k % 256 from by simp]
        show (k : Int) % 256 = _
        omega
      have Hb : Hid ((k + 1) * 24 ≤ 140737488355328 ∧ k + 1 ≤ maxLen) := ⟨by omega, by unfold maxLen; omega⟩
      have hszr : b1 + 1 ≤ wr.heap.size := lt_of_cell e0
      obtain ⟨z, Hz⟩ : ∃ z, Hid (ps[k] = z) := ⟨_, hide rfl⟩
      rw [Hz.out] at hcp HTK
      have hbp1 : bp < b1 := by omega
      clear hcp'
      have HXl := hide hX.lt
      have HYl := hide hY.lt
      have HXY := hide hXY
      obtain ⟨C, HC⟩ : ∃ C, Hid (bs.getD k (UInt8.ofNat k) = C) := ⟨_, rfl⟩
      rw [HC.out] at HTK
      obtain ⟨F, HF⟩ : ∃ F, Hid (fillB C = F) := ⟨_, rfl⟩
      rw [HF.out] at HTK
      have hcase : (∃ bb ob, (k : Int) < (bs.length : Int) ∧ ba = some ⟨bb, ob, none⟩ ∧ wr.cell? ⟨bb, ob + k, none⟩ = some (.int .u8 (C.toNat : Int))) ∨ (¬ (k : Int) < (bs.length : Int) ∧ Hid ((k : Int) % 256 = (C.toNat : Int))) := by
        by_cases hbk : k < bs.length
        · obtain ⟨bb, ob, e, _, hc⟩ := hba.out k hbk
          refine .inl ⟨bb, ob, by omega, e, ?_⟩
          rw [hK.cell hc (fun h => h)]
          have : bs[k] = C := by rw [← HC.out, List.getD_eq_getElem?_getD, List.getElem?_eq_getElem hbk]; rfl
          rw [this]
          rfl
        · refine .inr ⟨by omega, ?_⟩
          have : UInt8.ofNat k = C := by rw [← HC.out, List.getD_eq_getElem?_getD, List.getElem?_eq_none (by omega)]; rfl
          rw [← this]
          exact HU.out
      have HX : Hid (wr.ownsRow (b1 + 1) 56 2 u4 k (ccs ((chgL ps bs).take k))) := by
        have := hX
        unfold OwC at this
        rw [HTL.out] at this
        exact this
      have HY : Hid (wr.ownsRow (b1 + 1) 72 2 u5 k (ccs ((chgL ps bs).take k))) := by
        have := hY
        unfold OwC at this
        rw [HTL.out] at this
        exact this
      have dr : Kp none' wr wr.drew := Kp.drew _ _
      have e0d : wr.drew.cell? ⟨b1, 0, none⟩ = some (.slice (some ⟨bp, op, none⟩) ps.length pc) := e0
      have hcpd : wr.drew.cell? ⟨bp, op + k, none⟩ = some (.int .i64 z) := hcp
      have kA : ∀ (W : World) o, W.cell? ⟨b1, 0, none⟩ = some (.slice (some ⟨bp, op, none⟩) ps.length pc) ∧ W.cell? ⟨bp, op + k, none⟩ = some (.int .i64 z) → (W.alloc o).cell? ⟨b1, 0, none⟩ = some (.slice (some ⟨bp, op, none⟩) ps.length pc) ∧ (W.alloc o).cell? ⟨bp, op + k, none⟩ = some (.int .i64 z) := fun W o h => ⟨(Kp.alloc none' W o).cell h.1 (fun h => h), (Kp.alloc none' W o).cell h.2 (fun h => h)⟩
      have HkA := hide kA
      clear kA
      have H0 := hide e0
      have HP := hide hcp
      clear hX hY hXY HU HC
      rcases hcase with ⟨bb, ob, hbi, rfl, hcb⟩ | ⟨hbi, hwr⟩
      all_goals
        go_upto_region 9 with fail
        try simp only [hwr.out]
        refine wp_region_held_drew (S := fun W => W.cell? ⟨b1, 0, none⟩ = some (.slice (some ⟨bp, op, none⟩) ps.length pc) ∧ W.cell? ⟨bp, op + k, none⟩ = some (.int .i64 z)) (by kernel_rfl) ⟨e0d, hcpd⟩ (fun hHeld => ?_)
        refine take_at (i := 0) (d := 27) (v := ?_) rfl rfl (by kernel_rfl) (by kernel_rfl) (by kernel_rfl) (fun _ _ _ h => h) (Or.inl ⟨by rfl, ?_⟩) (by assumption) ?_
        rotate_left
        · intro W hSW
          try dsimp only at hSW
          go_simp
          try with_reducible rfl
        simp only [Act.put, List.setIfInBounds_toArray, List.set_cons_zero, List.set_cons_succ]
        refine take_at (i := 1) (d := 28) (v := ?_) rfl rfl (by kernel_rfl) (by kernel_rfl) (by kernel_rfl) (fun _ _ _ h => h) (Or.inl ⟨by rfl, ?_⟩) (by assumption) ?_
        rotate_left
        · intro W hSW
          try dsimp only at hSW
          go_simp
          try with_reducible rfl
        simp only [Act.put, List.setIfInBounds_toArray, List.set_cons_zero, List.set_cons_succ]
        refine take_at (i := 2) (d := 29) (v := ?_) rfl rfl (by kernel_rfl) (by kernel_rfl) (by kernel_rfl) (fun _ _ _ h => h) (Or.inl ⟨by rfl, ?_⟩) (by assumption) ?_
        rotate_left
        · intro W hSW
          try dsimp only at hSW
          go_simp
          try with_reducible rfl
        simp only [Act.put, List.setIfInBounds_toArray, List.set_cons_zero, List.set_cons_succ]
        refine take_at (i := 3) (d := 30) (v := ?_) rfl rfl (by kernel_rfl) (by kernel_rfl) (by kernel_rfl) (fun _ _ _ h => h) (Or.inl ⟨by rfl, ?_⟩) (by assumption) ?_
        rotate_left
        · intro W hSW
          try dsimp only at hSW
          go_simp
          try with_reducible rfl
        simp only [Act.put, List.setIfInBounds_toArray, List.set_cons_zero, List.set_cons_succ]
        refine take_at (i := 4) (d := 31) (v := ?_) rfl rfl (by kernel_rfl) (by kernel_rfl) (by kernel_rfl) (fun _ _ _ h => h) (Or.inl ⟨by rfl, ?_⟩) (by assumption) ?_
        rotate_left
        · intro W hSW
          try dsimp only at hSW
          go_simp
          try with_reducible rfl
        simp only [Act.put, List.setIfInBounds_toArray, List.set_cons_zero, List.set_cons_succ]
        refine take_at (i := 5) (d := 32) (v := ?_) rfl rfl (by kernel_rfl) (by kernel_rfl) (by kernel_rfl) (fun _ _ _ h => h) (Or.inl ⟨by rfl, ?_⟩) (by assumption) ?_
        rotate_left
        · intro W hSW
          try dsimp only at hSW
          go_simp
          try with_reducible rfl
        simp only [Act.put, List.setIfInBounds_toArray, List.set_cons_zero, List.set_cons_succ]
        refine take_at (i := 6) (d := 33) (v := ?_) rfl rfl (by kernel_rfl) (by kernel_rfl) (by kernel_rfl) (fun _ _ _ h => h) (Or.inl ⟨by rfl, ?_⟩) (by assumption) ?_
        rotate_left
        · intro W hSW
          try dsimp only at hSW
          go_simp
          try with_reducible rfl
        simp only [Act.put, List.setIfInBounds_toArray, List.set_cons_zero, List.set_cons_succ]
        refine wpAnyH_ready (rs := [7]) (by kernel_rfl) (by simp) ?_
        refine AllReadyH.cons rfl (fun K hK => ?_) AllReadyH.nil
        go_simp
        go_wp2_with (go_at_call 19; refine (fill_any C _).mono ?_; rintro e w2 ⟨rfl, hk2⟩; rw [HF.out]; have S2 : Kp none' wr w2 := dr.then hk2; have T2 : w2.cell? ⟨b1, 0, none⟩ = some (.slice (some ⟨bp, op, none⟩) ps.length pc) ∧ w2.cell? ⟨bp, op + k, none⟩ = some (.int .i64 z) := ⟨S2.cell H0.out (fun h => h), S2.cell HP.out (fun h => h)⟩)
        refine hK.out _ _ (T2) (fun hHeld => ?_)
        clear hK K
        refine take_at (i := 8) (d := 35) (v := ?_) rfl rfl (by kernel_rfl) (by kernel_rfl) (by kernel_rfl) (fun _ _ _ h => h) (Or.inl ⟨by rfl, ?_⟩) (by assumption) ?_
        rotate_left
        · intro W hSW
          try dsimp only at hSW
          go_simp
          try with_reducible rfl
        simp only [Act.put, List.setIfInBounds_toArray, List.set_cons_zero, List.set_cons_succ]
        refine wpAnyH_ready (rs := [9]) (by kernel_rfl) (by simp) ?_
        refine AllReadyH.cons rfl (fun K hK => ?_) AllReadyH.nil
        go_simp
        refine hK.out _ _ (HkA.out _ _ T2) (fun hHeld => ?_)
        clear hK K
        refine wpAnyH_ready (rs := [10]) (by kernel_rfl) (by simp) ?_
        refine AllReadyH.cons rfl (fun K hK => ?_) AllReadyH.nil
        refine pstep_append_at (d := 37) (by rfl) (by rfl) (.tmp 27) (.tmp 36) 35 35 (by rfl) (b1 + 1) 56 i0 _ 2 24 Tryz.underlying35 hi hz0 (by rfl) hz1 hz2 u4 k (ccs ((chgL ps bs).take k)) (by rfl) (World.ownsRow.alloc (prow_kept HX.out S2 (fun _ _ h => h)) _) _ 1 [.int .i64 z, .string F] (by rfl) (src_two _ 35 56 Tryz.underlying35 _ _ rfl rfl _ (by rfl)) (by omega) Hb.out.1 Hb.out.2 (by have := S2.size ; simp ; omega) ?_
        intro v4 w4 ho4 hg4 hv4
        have hk4 : Kp (fun q => u4.ownBlock = some q) wr w4 := (S2.mono (fun _ _ h => h.elim)).then ((Kp.alloc _ w2 _).then (Kp.ofGrown hg4 (fun q hq _ => hq)))
        have T4 : w4.cell? ⟨b1, 0, none⟩ = some (.slice (some ⟨bp, op, none⟩) ps.length pc) ∧ w4.cell? ⟨bp, op + k, none⟩ = some (.int .i64 z) := ⟨hk4.cell H0.out (fun h => by have := (HXl.out b1 h).1; omega), hk4.cell HP.out (fun h => by have := (HXl.out bp h).1; omega)⟩
        have hN4 : ∀ q, v4.ownBlock = some q → u4.ownBlock = some q ∨ wr.heap.size ≤ q := fun q hq => by
          rcases hv4 with h | h
          · exact .inl (by rw [← h]; exact hq)
          · rw [h] at hq
            have := S2.size
            simp at hq
            exact .inr (by omega)
        refine hK.out _ _ (T4) (fun hHeld => ?_)
        clear hK K
        simp only [Act.put, List.setIfInBounds_toArray, List.set_cons_zero, List.set_cons_succ]
        refine take_at (i := 11) (d := 4) (v := ?_) rfl rfl (by kernel_rfl) (by kernel_rfl) (by kernel_rfl) (fun _ _ _ h => h) (Or.inl ⟨by rfl, ?_⟩) (by assumption) ?_
        rotate_left
        · intro W hSW
          try dsimp only at hSW
          go_simp
          try with_reducible rfl
        simp only [Act.put, List.setIfInBounds_toArray, List.set_cons_zero, List.set_cons_succ]
        refine wpAnyH_done (by kernel_rfl) ?_ _
        have hY4 := prow_kept HY.out hk4 (fun q h1 h2 => HXY.out q h2 h1)
        have e04 := T4.1
        have hcp4 := T4.2
        have dr4 : Kp none' w4 w4.drew := Kp.drew _ _
        have e0d4 : w4.drew.cell? ⟨b1, 0, none⟩ = some (.slice (some ⟨bp, op, none⟩) ps.length pc) := e04
        have hcpd4 : w4.drew.cell? ⟨bp, op + k, none⟩ = some (.int .i64 z) := hcp4
        have HH4 := hide (And.intro ho4 (And.intro hk4 hN4))
        have HY4 := hide hY4
        have HT4 := hide T4
        have hsz4 : b1 + 1 ≤ w4.heap.size := Nat.le_trans hszr hk4.size
        clear S2 T2 hk2 ho4 hg4 hv4 hk4 hN4 hY4 T4 e0d hcpd dr hcp e0
        go_upto_region 10 with fail
        refine wp_region_held_drew (S := fun W => W.cell? ⟨b1, 0, none⟩ = some (.slice (some ⟨bp, op, none⟩) ps.length pc) ∧ W.cell? ⟨bp, op + k, none⟩ = some (.int .i64 z)) (by kernel_rfl) ⟨e0d4, hcpd4⟩ (fun hHeld => ?_)
        refine take_at (i := 0) (d := 38) (v := ?_) rfl rfl (by kernel_rfl) (by kernel_rfl) (by kernel_rfl) (fun _ _ _ h => h) (Or.inl ⟨by rfl, ?_⟩) (by assumption) ?_
        rotate_left
        · intro W hSW
          try dsimp only at hSW
          go_simp
          try with_reducible rfl
        simp only [Act.put, List.setIfInBounds_toArray, List.set_cons_zero, List.set_cons_succ]
        refine take_at (i := 1) (d := 39) (v := ?_) rfl rfl (by kernel_rfl) (by kernel_rfl) (by kernel_rfl) (fun _ _ _ h => h) (Or.inl ⟨by rfl, ?_⟩) (by assumption) ?_
        rotate_left
        · intro W hSW
          try dsimp only at hSW
          go_simp
          try with_reducible rfl
        simp only [Act.put, List.setIfInBounds_toArray, List.set_cons_zero, List.set_cons_succ]
        refine take_at (i := 2) (d := 40) (v := ?_) rfl rfl (by kernel_rfl) (by kernel_rfl) (by kernel_rfl) (fun _ _ _ h => h) (Or.inl ⟨by rfl, ?_⟩) (by assumption) ?_
        rotate_left
        · intro W hSW
          try dsimp only at hSW
          go_simp
          try with_reducible rfl
        simp only [Act.put, List.setIfInBounds_toArray, List.set_cons_zero, List.set_cons_succ]
        refine take_at (i := 3) (d := 41) (v := ?_) rfl rfl (by kernel_rfl) (by kernel_rfl) (by kernel_rfl) (fun _ _ _ h => h) (Or.inl ⟨by rfl, ?_⟩) (by assumption) ?_
        rotate_left
        · intro W hSW
          try dsimp only at hSW
          go_simp
          try with_reducible rfl
        simp only [Act.put, List.setIfInBounds_toArray, List.set_cons_zero, List.set_cons_succ]
        refine take_at (i := 4) (d := 42) (v := ?_) rfl rfl (by kernel_rfl) (by kernel_rfl) (by kernel_rfl) (fun _ _ _ h => h) (Or.inl ⟨by rfl, ?_⟩) (by assumption) ?_
        rotate_left
        · intro W hSW
          try dsimp only at hSW
          go_simp
          try with_reducible rfl
        simp only [Act.put, List.setIfInBounds_toArray, List.set_cons_zero, List.set_cons_succ]
        refine take_at (i := 5) (d := 43) (v := ?_) rfl rfl (by kernel_rfl) (by kernel_rfl) (by kernel_rfl) (fun _ _ _ h => h) (Or.inl ⟨by rfl, ?_⟩) (by assumption) ?_
        rotate_left
        · intro W hSW
          try dsimp only at hSW
          go_simp
          try with_reducible rfl
        simp only [Act.put, List.setIfInBounds_toArray, List.set_cons_zero, List.set_cons_succ]
        refine take_at (i := 6) (d := 44) (v := ?_) rfl rfl (by kernel_rfl) (by kernel_rfl) (by kernel_rfl) (fun _ _ _ h => h) (Or.inl ⟨by rfl, ?_⟩) (by assumption) ?_
        rotate_left
        · intro W hSW
          try dsimp only at hSW
          go_simp
          try with_reducible rfl
        simp only [Act.put, List.setIfInBounds_toArray, List.set_cons_zero, List.set_cons_succ]
        refine wpAnyH_ready (rs := [7]) (by kernel_rfl) (by simp) ?_
        refine AllReadyH.cons rfl (fun K hK => ?_) AllReadyH.nil
        go_simp
        go_wp2_with (go_at_call 19; refine (fill_any C _).mono ?_; rintro e w5 ⟨rfl, hk5⟩; rw [HF.out]; have S5 : Kp none' w4 w5 := dr4.then hk5; have T5 : w5.cell? ⟨b1, 0, none⟩ = some (.slice (some ⟨bp, op, none⟩) ps.length pc) ∧ w5.cell? ⟨bp, op + k, none⟩ = some (.int .i64 z) := ⟨S5.cell HT4.out.1 (fun h => h), S5.cell HT4.out.2 (fun h => h)⟩)
        refine hK.out _ _ (T5) (fun hHeld => ?_)
        clear hK K
        refine take_at (i := 8) (d := 46) (v := ?_) rfl rfl (by kernel_rfl) (by kernel_rfl) (by kernel_rfl) (fun _ _ _ h => h) (Or.inl ⟨by rfl, ?_⟩) (by assumption) ?_
        rotate_left
        · intro W hSW
          try dsimp only at hSW
          go_simp
          try with_reducible rfl
        simp only [Act.put, List.setIfInBounds_toArray, List.set_cons_zero, List.set_cons_succ]
        refine wpAnyH_ready (rs := [9]) (by kernel_rfl) (by simp) ?_
        refine AllReadyH.cons rfl (fun K hK => ?_) AllReadyH.nil
        go_simp
        refine hK.out _ _ (HkA.out _ _ T5) (fun hHeld => ?_)
        clear hK K
        refine wpAnyH_ready (rs := [10]) (by kernel_rfl) (by simp) ?_
        refine AllReadyH.cons rfl (fun K hK => ?_) AllReadyH.nil
        refine pstep_append_at (d := 48) (by rfl) (by rfl) (.tmp 38) (.tmp 47) 36 36 (by rfl) (b1 + 1) 72 j0 _ 2 24 Tryz.underlying36 hj hy0 (by rfl) hy1 hy2 u5 k (ccs ((chgL ps bs).take k)) (by rfl) (World.ownsRow.alloc (prow_kept HY4.out S5 (fun _ _ h => h)) _) _ 1 [.int .i64 z, .string F] (by rfl) (src_two _ 36 72 Tryz.underlying36 _ _ rfl rfl _ (by rfl)) (by omega) Hb.out.1 Hb.out.2 (by have := S5.size ; simp ; omega) ?_
        intro v6 w6 ho6 hg6 hv6
        have hk6 : Kp (fun q => u5.ownBlock = some q) w4 w6 := (S5.mono (fun _ _ h => h.elim)).then ((Kp.alloc _ w5 _).then (Kp.ofGrown hg6 (fun q hq _ => hq)))
        have T6 : w6.cell? ⟨b1, 0, none⟩ = some (.slice (some ⟨bp, op, none⟩) ps.length pc) ∧ w6.cell? ⟨bp, op + k, none⟩ = some (.int .i64 z) := ⟨hk6.cell HT4.out.1 (fun h => by have := (HYl.out b1 h).1; omega), hk6.cell HT4.out.2 (fun h => by have := (HYl.out bp h).1; omega)⟩
        have hN6 : ∀ q, v6.ownBlock = some q → u5.ownBlock = some q ∨ w4.heap.size ≤ q := fun q hq => by
          rcases hv6 with h | h
          · exact .inl (by rw [← h]; exact hq)
          · rw [h] at hq
            have := S5.size
            simp at hq
            exact .inr (by omega)
        refine hK.out _ _ (T6) (fun hHeld => ?_)
        clear hK K
        simp only [Act.put, List.setIfInBounds_toArray, List.set_cons_zero, List.set_cons_succ]
        refine take_at (i := 11) (d := 5) (v := ?_) rfl rfl (by kernel_rfl) (by kernel_rfl) (by kernel_rfl) (fun _ _ _ h => h) (Or.inl ⟨by rfl, ?_⟩) (by assumption) ?_
        rotate_left
        · intro W hSW
          try dsimp only at hSW
          go_simp
          try with_reducible rfl
        simp only [Act.put, List.setIfInBounds_toArray, List.set_cons_zero, List.set_cons_succ]
        refine wpAnyH_done (by kernel_rfl) ?_ _
        obtain ⟨ho4, hk4, hN4⟩ := HH4.out
        have hx6 := prow_kept ho4 hk6 (fun q h1 h2 => by
          rcases hN4 q h1 with h | h
          · exact HXY.out q h h2
          · have := (HYl.out q h2).2
            omega)
        have HF6 : Hid (OwC 56 w6 (b1 + 1) v4 ((chgL ps bs).take (k + 1)) ∧ OwC 72 w6 (b1 + 1) v6 ((chgL ps bs).take (k + 1)) ∧ (∀ q, v4.ownBlock = some q → v6.ownBlock ≠ some q) ∧ Kp none' w w6 ∧ Kp none' wa w6) := by
          rw [HTK.out]
          refine ⟨OwC.snoc (by rw [HTL.out]; exact hx6), OwC.snoc (by rw [HTL.out]; exact ho6), fun q h1 h2 => ?_, ?_, ?_⟩
          · have hq4 := (World.ownsRow.lt ho4 q h1).2
            rcases hN6 q h2 with h | h
            · rcases hN4 q h1 with h' | h'
              · exact HXY.out q h' h
              · have := (HYl.out q h).2
                omega
            · omega
          · exact (hK.trans hk4 (fun _ _ h => h) (fun q hq h => absurd hq (by have := (HXl.out q h).1; have := HG.out; omega))).trans hk6 (fun _ _ h => h) (fun q hq h => absurd hq (by have := (HYl.out q h).1; have := HG.out; omega))
          · exact (hKa.trans hk4 (S'' := none') (fun _ _ h => h) (fun q hq h => absurd hq (by have := (HXl.out q h).1; have := HAs.out; omega))).trans hk6 (fun _ _ h => h) (fun q hq h => absurd hq (by have := (HYl.out q h).1; have := HAs.out; omega))
        clear hx6 ho4 hk4 hN4 ho6 hk6 hN6 T6 T5 S5 hk5 HkA
        go_wp2
        go_roundw
        case rel => exact ⟨k + 1, by omega, by go_num, HF6.out⟩
        case measure => simp [intOf]; omega
    · obtain rfl : k = ps.length := by omega
      rw [List.take_of_length_le (by rw [chgL_len]; exact Nat.le_refl _)] at hX hY
      go_wp2
      go_ret2
      exact ⟨_, _, rfl, hX.mono (by omega), hY.mono (by omega), hK⟩

end Go.Proofs.YtgfijbbibafdfaaGreat
