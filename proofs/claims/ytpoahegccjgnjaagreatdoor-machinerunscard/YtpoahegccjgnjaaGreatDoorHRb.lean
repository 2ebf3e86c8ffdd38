/- Contracts, over the turned program: registers that are copied; whether a frame may be. Conditions: those that each theorem states. -/
import Derived.Test.YtpoahegccjgnjaaGreatDoorHDv
import Derived.Test.YtpoahegccjgnjaaGreatDoorHJo
import Derived.Test.YtpoahegccjgnjaaGreatDoorQG
namespace Go.Proofs.YtpoahegccjgnjaaGreatDoor
open Go.RowKit
set_option linter.unusedVariables false

def CloneP (w : World) (l : List V) (e : Ending) (w' : World) : Prop := ∃ r cap, e = .returned (.slice (some ⟨r, 0, none⟩) 6 cap) ∧ OwR V.cells 3 31 w' w.heap.size (.slice (some ⟨r, 0, none⟩) 6 cap) l
theorem infoV3 : (Tryz.prog.info? 31).map (fun i => (i.zero, i.size, i.bytes)) = some (some (.agg #[.int .i64 0, .int .i64 0, .string ByteArray.empty]), 3, 32) := by kernel_rfl
set_option maxRecDepth 100000 in
set_option maxHeartbeats 600000 in
theorem m_clone (v : Value) (l : List V) (w : World) (hI : Rw V.cells 3 w v l) (hl : l.length = 6) :
    Calls Tryz.prog 12 #[v] w fun e w' => CloneP w l e w' ∧ w.grownBy w' none := by
  have hI' := hI
  obtain ⟨a, c, rfl, hlc, hcm, ha⟩ := hI'
  obtain ⟨b, off, rfl, _⟩ := ha 0 (by omega)
  clear ha
  have hq : ∀ W : World, (binOp .eql 23 (.slice (some ⟨b, off, none⟩) 6 c) (.slice none 0 0)).run Tryz.prog W = .ok (.bool false) W := fun W => Lib.run_eql_slice_nil W _ _ (some ⟨b, off, none⟩) 6 c 0 0 Tryz.underlying23
  have hga := World.grownBy_alloc w (.cells #[] 31) none
  have hO : OwR V.cells 3 31 (w.alloc (.cells #[] 31)) w.heap.size (.slice (some ⟨w.heap.size, 0, none⟩) 0 0) [] := World.ownsRow_made w #[] 0 (Nat.le_refl _) (Nat.zero_le _) (by simp)
  obtain ⟨i0, hi, hz0, hz1, hz2⟩ := info_parts infoV3
  have hin := (hI.keptN hga).src clV (by omega) 23 31 Tryz.underlying23
  obtain ⟨v2, w2, hq2, hO2, hg2, hv2⟩ := run_append_own_row (P := Tryz.prog) (w.alloc (.cells #[] 31)) w.heap.size 23 23 23 31 i0 _ 3 32 Tryz.underlying23 hi hz0 rfl hz1 hz2 _ 0 _ hO _ _ _ hin (by omega) (by omega) (by unfold maxLen; omega) hga.size
  have hO2' : OwR V.cells 3 31 w2 w.heap.size v2 l := by
    unfold OwR
    have : ([] : List V).length + l.length = l.length := by simp
    rw [Nat.zero_add] at hO2
    exact hO2
  have hk2 : w.grownBy w2 none := grown_new hga hg2 (fun j e => by cases e; exact Nat.le_refl _)
  rw [hl] at hq2
  rcases hO2'.shape with ⟨_, h0⟩ | ⟨r, cap, rfl, _⟩
  · rw [h0] at hl; cases hl
  · rw [hl] at hq2 hO2' ⊢
    have HO := hide hO2'
    clear hO2 hO2' hin hO hI hv2 hlc
    go_enter Tryz.func12, Tryz.ntmps12
    go_wp2_with (at_builtin; refine iwpList_app_at rfl (.tmp 5) (.tmp 6) 23 23 rfl _ _ rfl rfl hq2 ?_)
    go_ret
    exact ⟨⟨r, cap, rfl, HO.out⟩, hk2⟩

theorem rightF_iff {l : List In} {pc : Int} {rg : List V} : rightF l pc rg = true ↔ (chkI l).1 = 0 ∧ 0 ≤ pc ∧ pc < (l.length : Int) ∧ rg.length = 6 ∧ rg.all okC = true := by
  unfold rightF
  simp only [Bool.and_eq_true, decide_eq_true_eq, and_assoc]
theorem rightF_not {l : List In} {pc : Int} {rg : List V} (h : ¬ ((chkI l).1 = 0 ∧ 0 ≤ pc ∧ pc < (l.length : Int) ∧ rg.length = 6 ∧ rg.all okC = true)) : rightF l pc rg = false := by
  cases hr : rightF l pc rg with
  | false => rfl
  | true => exact absurd (rightF_iff.1 hr) h
theorem all_of_getD {l : List V} (h : ∀ i, i < l.length → okC (l.getD i zV) = true) : l.all okC = true := by
  rw [List.all_eq_true]
  intro x hx
  obtain ⟨i, hi, rfl⟩ := List.mem_iff_getElem.1 hx
  have := h i hi
  rw [getD_lt l i zV hi] at this
  exact this
set_option maxRecDepth 100000 in
set_option maxHeartbeats 1000000 in
theorem m_right (v rv : Value) (l : List In) (pc : Int) (rg : List V) (w : World) (hT : Ins w v l) (hwf : ∀ x ∈ l, x.wf) (hG : Glob w) (hr : Rw V.cells 3 w rv rg) (hrw : ∀ x ∈ rg, x.wf) :
    Calls Tryz.prog 8 #[v, .agg #[.int .i64 pc, rv]] w fun e w' => e = .returned (.bool (rightF l pc rg)) ∧ w.grownBy w' none := by
  obtain ⟨a', c', rfl, h1, h2, h3⟩ := hT
  have hT : Ins w (.slice a' l.length c') l := ⟨a', c', rfl, h1, h2, h3⟩
  have HT := hide hT
  clear h1 h2 h3 hT
  obtain ⟨a, c, rfl, g1, g2, g3⟩ := hr
  have H3 := hide g3
  clear g1 g2 g3
  obtain ⟨R, HR⟩ : ∃ R, Hid (rightF l pc rg = R) := ⟨_, rfl⟩
  rw [HR.out]
  obtain ⟨c1, H1⟩ : ∃ c1, Hid ((chkI l).1 = c1) := ⟨_, rfl⟩
  obtain ⟨c2, H2⟩ : ∃ c2, Hid ((chkI l).2 = c2) := ⟨_, rfl⟩
  have hga := World.grownBy_alloc w (.cells #[.int .i64 pc, .slice a rg.length c] 25) none
  have hchk := qcheck_any _ l _ (HT.out.keptN hga) hwf (hG.keptN hga)
  rw [H1.out, H2.out] at hchk
  have f0 : (w.alloc (.cells #[.int .i64 pc, .slice a rg.length c] 25)).cell? ⟨w.heap.size, 0, none⟩ = some (.int .i64 pc) := by simp
  have f1 : (w.alloc (.cells #[.int .i64 pc, .slice a rg.length c] 25)).cell? ⟨w.heap.size, 1, none⟩ = some (.slice a rg.length c) := by simp
  by_cases h0 : c1 = 0
  · have t0 : (c1 != 0) = false := by simp [h0]
    by_cases hp : pc < 0
    · have e := HR.out
      rw [rightF_not (fun h => by have := h.2.1; omega)] at e
      subst e
      clear h0
      go_enter Tryz.func8, Tryz.ntmps8
      go_wp2_with (go_at_call 17; refine hchk.mono ?_; rintro e w2 ⟨rfl, hg2⟩; have d0 := cell_g f0 hg2; have d1 := cell_g f1 hg2)
      go_ret
      exact ⟨rfl, grown_up hga hg2⟩
    · by_cases hq : (l.length : Int) ≤ pc
      · have e := HR.out
        rw [rightF_not (fun h => by have := h.2.2.1; omega)] at e
        subst e
        clear h0
        go_enter Tryz.func8, Tryz.ntmps8
        go_wp2_with (go_at_call 17; refine hchk.mono ?_; rintro e w2 ⟨rfl, hg2⟩; have d0 := cell_g f0 hg2; have d1 := cell_g f1 hg2)
        go_ret
        exact ⟨rfl, grown_up hga hg2⟩
      · by_cases h6 : rg.length = 6
        · have HN : Hid ((∀ i, i < 6 → okC (rg.getD i zV) = true) → R = true) := fun h => by
            rw [← HR.out]
            exact rightF_iff.2 ⟨by rw [H1.out]; exact h0, by omega, by omega, h6, all_of_getD (by rw [h6]; exact h)⟩
          have HB : Hid (∀ i, i < 6 → okC (rg.getD i zV) = false → R = false) := fun i hi hb => by
            rw [← HR.out]
            refine rightF_not (fun h => ?_)
            have := List.all_eq_true.1 h.2.2.2.2 _ (getD_in rg i zV (by omega))
            rw [hb] at this
            cases this
          have H3' : Hid (∀ i, i < 6 → ∃ b off, a = some ⟨b, off, none⟩ ∧ b < w.heap.size ∧ ∀ j u, (V.cells (rg.getD i zV))[j]? = some u → w.cell? ⟨b, off + i * 3 + j, none⟩ = some u) := fun i hi => by
            have hl : i < rg.length := by omega
            rw [getD_lt rg i zV hl]
            exact H3.out i hl
          have Hw : Hid (∀ i, i < 6 → (rg.getD i zV).wf) := fun i hi => hrw _ (getD_in rg i zV (by omega))
          rw [h6] at hga hchk f0 f1 ⊢
          have hpl : pc < (l.length : Int) := by omega
          clear h0 h6 HR
          go_enter Tryz.func8, Tryz.ntmps8
          go_wp2_with (go_at_call 17; refine hchk.mono ?_; rintro e w2 ⟨rfl, hg2⟩; have d0 := cell_g f0 hg2; have d1 := cell_g f1 hg2)
          have hgw := grown_up hga hg2
          clear f0 f1 hchk hga
          go_loopw [35] (fun t wr => ∃ j : Nat, j ≤ 6 ∧ t = .int .i64 j ∧ w.grownBy wr none ∧ Hid (∀ i, i < j → okC (rg.getD i zV) = true)) (fun t _ => 6 - (intOf t).toNat)
          case atStart => exact ⟨0, Nat.zero_le _, rfl, hgw, fun j hj => by omega⟩
          case round =>
            obtain ⟨j, hj, rfl, hg, Hj⟩ := hrel
            by_cases hlt : j < 6
            · have hji : (j : Int) < 6 := by omega
              obtain ⟨b, off, rfl, hb, hcb⟩ := H3'.out j hlt
              have hcs : ∀ k u, (V.cells (rg.getD j zV))[k]? = some u → wr.cell? ⟨b, off + j * 3 + k, none⟩ = some u := fun k u hu => (cell_same (hg.block b hb (by simp)) _).trans (hcb k u hu)
              have e0 : wr.cell? ⟨b, off + j * 3, none⟩ = some (.int .i64 (rg.getD j zV).k) := hcs 0 _ rfl
              have e1 := hcs 1 _ rfl
              have e2 := hcs 2 _ rfl
              have hmay := m_mayBe (rg.getD j zV) (wr.alloc (.cells #[.int .i64 (rg.getD j zV).k, .int .i64 (rg.getD j zV).n, .string (rg.getD j zV).s] 31)) (Hw.out j hlt)
              have hgv := World.grownBy_alloc wr (.cells #[.int .i64 (rg.getD j zV).k, .int .i64 (rg.getD j zV).n, .string (rg.getD j zV).s] 31) none
              have HBj := hide (HB.out j hlt)
              have HJ : Hid (okC (rg.getD j zV) = true → ∀ i, i < j + 1 → okC (rg.getD i zV) = true) := fun h i hi => by
                rcases Nat.lt_or_ge i j with h' | h'
                · exact Hj.out i h'
                · obtain rfl : i = j := by omega
                  exact h
              clear hcs hcb
              generalize rg.getD j zV = y at *
              unfold V.val at hmay
              cases hk : okC y with
              | true =>
                rw [hk] at hmay HJ
                clear hk
                go_wp2_with (go_at_call 18; refine hmay.mono ?_; rintro e w3 ⟨rfl, hg3⟩)
                go_roundw
                case rel => exact ⟨j + 1, by omega, by go_num, grown_up (grown_up hg hgv) hg3, HJ.out (by trivial)⟩
                case measure => simp [intOf]; omega
              | false =>
                rw [hk] at hmay
                have e := HBj.out hk
                subst e
                clear hk
                go_wp2_with (go_at_call 18; refine hmay.mono ?_; rintro e w3 ⟨rfl, hg3⟩)
                go_ret
                exact ⟨rfl, grown_up (grown_up hg hgv) hg3⟩
            · obtain rfl : j = 6 := by omega
              have e := HN.out Hj.out
              subst e
              go_wp2
              go_ret
              exact ⟨rfl, hg⟩
        · have t6 : ((rg.length : Int) != 6) = true := by simp; omega
          have e := HR.out
          rw [rightF_not (fun h => h6 h.2.2.2.1)] at e
          subst e
          clear h0 h6
          go_enter Tryz.func8, Tryz.ntmps8
          go_wp2_with (go_at_call 17; refine hchk.mono ?_; rintro e w2 ⟨rfl, hg2⟩; have d0 := cell_g f0 hg2; have d1 := cell_g f1 hg2)
          go_ret
          exact ⟨rfl, grown_up hga hg2⟩
  · have t0 : (c1 != 0) = true := by simp [h0]
    have e := HR.out
    rw [rightF_not (fun h => h0 (H1.out.symm.trans h.1))] at e
    subst e
    clear h0
    go_enter Tryz.func8, Tryz.ntmps8
    go_wp2_with (go_at_call 17; refine hchk.mono ?_; rintro e w2 ⟨rfl, hg2⟩; have d0 := cell_g f0 hg2; have d1 := cell_g f1 hg2)
    go_ret
    exact ⟨rfl, grown_up hga hg2⟩

end Go.Proofs.YtpoahegccjgnjaaGreatDoor
