/- The walk of MachinePuts, over instructions, a frame and entries as they lie in memory. Conditions: those that each theorem states. -/
import Derived.Test.YthopmlgfklhagabDoorHTab
import Derived.Test.YthopmlgfklhagabDoorHLv
import Derived.Test.YthopmlgfklhagabDoorHJk
import Derived.Test.YthopmlgfklhagabDoorHRl
import Derived.Test.YthopmlgfklhagabDoorHJo
import Derived.Test.YthopmlgfklhagabDoorHJm
namespace Go.Proofs.YthopmlgfklhagabDoor
open Go Go.RowKit
set_option linter.unusedVariables false

theorem app_manyR {α : Type} {c : α → List Value} {n : Nat} (hc : Cl c n) (hn : 0 < n) (t e : TypeId) (ht : Tryd.prog.underlying t = some (.slice e)) (z : Value) (by_ : Nat) (hinfo : (Tryd.prog.info? e).map (fun i => (i.zero, i.size, i.bytes)) = some (some z, n, by_)) (hzc : z.cells.size = n) (hby : by_ ≤ 100)
    (w : World) (B : Nat) (v : Value) (l : List α) (x : α) (p : Nat) (hO : OwR c n e w B v l) (h : w.heap[p]? = some (.cells (c x).toArray e (0, 0))) (hb : B ≤ w.heap.size) (hl : l.length ≤ 10000000) :
    ∃ v' w', (Builtin.append_ #[t, t] t #[v, .slice (some ⟨p, 0, none⟩) 1 1]).run Tryd.prog w = .ok v' w' ∧ OwR c n e w' B v' (l ++ [x]) ∧ w.grownBy w' v.ownBlock := by
  obtain ⟨i0, hi, hz0, hz1, hz2⟩ := info_parts hinfo
  obtain ⟨v', w', hr, h1, h2, h3⟩ := run_append_own_row (P := Tryd.prog) w B t t t e i0 z n by_ ht hi hz0 hzc hz1 hz2 v l.length (fcs c l) hO (.slice (some ⟨p, 0, none⟩) 1 1) 1 (fcs c [x]) ((rw_one (n := n) x h).src hc hn t e ht) (by omega) (by
    have : (l.length + 1) * by_ ≤ 10000001 * 100 := Nat.mul_le_mul (by omega) hby
    omega) (by unfold maxLen; omega) hb
  rw [← fcs_append] at h1
  exact ⟨v', w', hr, by unfold OwR; rw [List.length_append]; exact h1, h2⟩
theorem short_wf {t : List Wr} (h : ∀ x ∈ t, x.v.wf) : ∀ x ∈ shortT t, x.v.wf := by
  intro x hx
  unfold shortT shortBy at hx
  obtain ⟨y, hy, e⟩ := List.mem_filterMap.1 hx
  cases hl : lookT t y.k with
  | none => rw [hl] at e; cases e
  | some v =>
    rw [hl] at e
    cases e
    exact lookT_wf h _ _ hl
theorem short_len (f : V → Option V) (t : List Wr) : (shortBy f t).length ≤ t.length := List.length_filterMap_le _ _
set_option maxRecDepth 100000 in
set_option maxHeartbeats 4000000 in
theorem walk0 (hL : TabLook) (v rv tv : Value) (l : List In) (pc : Int) (rg : List V) (t : List Wr) (W : World) (hI : Ins W v l) (hwf : ∀ x ∈ l, x.wf) (hr : Rw V.cells 3 W rv rg) (hrw : ∀ x ∈ rg, x.wf) (ht : Rw Wr.cells 7 W tv t) (htw : ∀ x ∈ t, x.v.wf) (hG : Glob W) (hn : t.length ≤ 1048576) :
    Calls Tryd.prog 4 #[v, .agg #[.int .i64 pc, rv], tv] W fun e w' => e = .returned (.bool true) ∧ W.grownBy w' none := by
  obtain ⟨b0, d0, rfl, h1, h2, h3⟩ := hI
  have hI : Ins W (.slice b0 l.length d0) l := ⟨b0, d0, rfl, h1, h2, h3⟩
  have hlm : (l.length : Int) ≤ 9223372036854775807 := by unfold maxLen at h2; omega
  have HI := hide hI
  have H3 := hide h3
  clear h1 h2 h3 hI
  have HR := hide hr
  obtain ⟨a0, c0, rfl, _⟩ := hr
  have HT := hide ht
  obtain ⟨s0, u0, rfl, _, _, ht3⟩ := ht
  have HT3 := hide ht3
  clear ht3
  have hga := World.grownBy_alloc W (.cells #[.int .i64 pc, .slice a0 rg.length c0] 35) none
  have f0 : (W.alloc (.cells #[.int .i64 pc, .slice a0 rg.length c0] 35)).cell? ⟨W.heap.size, 0, none⟩ = some (.int .i64 pc) := by simp
  have f1 : (W.alloc (.cells #[.int .i64 pc, .slice a0 rg.length c0] 35)).cell? ⟨W.heap.size, 1, none⟩ = some (.slice a0 rg.length c0) := by simp
  have hl := mlives_any (W.alloc (.cells #[.int .i64 pc, .slice a0 rg.length c0] 35)) (hG.keptN hga)
  go_enter Tryd.func4, Tryd.ntmps4
  go_upto_region 3 with (go_at_call 5; refine hl.mono ?_; rintro e w1 ⟨rfl, hg1⟩)
  have f0 := cell_g f0 hg1
  have f1 := cell_g f1 hg1
  have hgw := grown_up hga hg1
  clear hl hga hg1
  go_wp2_with fail
  obtain ⟨bs, Hbs⟩ : ∃ bs, Hid (w1.heap.size = bs) := ⟨_, rfl⟩
  go_loopw [7, 8] (fun v i wr => ∃ j : Nat, j ≤ t.length ∧ i = .int .i64 (j : Int) ∧ w1.grownBy wr none ∧ OwR Wr.cells 7 40 wr bs v (shortBy (lookT t) (t.take j))) (fun _ i _ => t.length - (intOf i).toNat)
  case atStart => exact ⟨0, Nat.zero_le _, rfl, World.grownBy.refl _ _, OwR.nil⟩
  case round =>
    obtain ⟨j, hj, rfl, hg, hO⟩ := hrel
    have hgr := grown_up hgw hg
    have hbz := hg.size
    by_cases hlt : j < t.length
    · have hji : (j : Int) < (t.length : Int) := by omega
      obtain ⟨b, off, rfl, hb, hcb⟩ := HT3.out j hlt
      have x0 : wr.cell? ⟨b, off + j * 7, none⟩ = some (.int .i64 (t[j]).k.k) := cell_g (hcb 0 _ rfl) hgr
      have x1 : wr.cell? ⟨b, off + j * 7 + 1, none⟩ = some (.int .i64 (t[j]).k.n) := cell_g (hcb 1 _ rfl) hgr
      have x2 : wr.cell? ⟨b, off + j * 7 + 2, none⟩ = some (.string (t[j]).k.s) := cell_g (hcb 2 _ rfl) hgr
      have HSn := hide (shortBy_snoc (lookT t) (t.take j) t[j])
      have HTk : Hid (t.take (j + 1) = t.take j ++ [t[j]]) := List.take_succ_eq_append_getElem hlt
      have hsl := hide (short_len (lookT t) (t.take j))
      have hlk := rlook_any (.slice (some ⟨b, off, none⟩) t.length u0) t t[j].k wr (HT.out.keptN hgr)
      have hblt : b < wr.heap.size := Nat.lt_of_lt_of_le hb hgr.size
      generalize t[j] = x at *
      unfold V.val at hlk
      clear hcb
      go_wp2_with fail
      refine hlk.mono ?_
      rintro e w4 ⟨rfl, hg4⟩
      have hga4 := World.grownBy_alloc w4 (.cells #[.int .i64 (obV (lookT t x.k)).k, .int .i64 (obV (lookT t x.k)).n, .string (obV (lookT t x.k)).s] 25) none
      have V4 := Vb.new w4 (obV (lookT t x.k))
      have hg5 := grown_up hg4 hga4
      have hO5 := hO.keptN hg5
      have hw5 := grown_up hg hg5
      have x0 := cell_g x0 hg5
      have x1 := cell_g x1 hg5
      have x2 := cell_g x2 hg5
      have hpne : ∀ q, u7.ownBlock = some q → q < wr.heap.size := fun q e => (hO.lt q e).2
      have hpz := hg4.size
      have hblt5 := Nat.lt_of_lt_of_le hblt hg5.size
      have hbs : ∀ q, u7.ownBlock = some q → bs ≤ q := fun q e => (hO.lt q e).1
      have hWb : b < w1.heap.size := Nat.lt_of_lt_of_le hb hgw.size
      clear hlk
      go_upto_region 8 with fail
      generalize w4.alloc (.cells #[.int .i64 (obV (lookT t x.k)).k, .int .i64 (obV (lookT t x.k)).n, .string (obV (lookT t x.k)).s] 25) = W5 at *
      obtain ⟨p, hp⟩ : ∃ p, w4.heap.size = p := ⟨_, rfl⟩
      rw [hp] at V4 ⊢
      cases hlk : lookT t x.k with
      | none =>
        have HS : Hid (shortBy (lookT t) (t.take (j + 1)) = shortBy (lookT t) (t.take j)) := by show _ = _; rw [HTk.out, HSn.out, hlk]
        clear hlk
        go_wp2_with fail
        go_roundw
        case rel => exact ⟨j + 1, by omega, by go_num, hw5, by rw [HS.out]; exact hO5⟩
        case measure => simp [intOf]; omega
      | some vv =>
        have HS : Hid (shortBy (lookT t) (t.take (j + 1)) = shortBy (lookT t) (t.take j) ++ [⟨x.k, vv, false⟩]) := by show _ = _; rw [HTk.out, HSn.out, hlk]
        have hov : obV (lookT t x.k) = vv := by rw [hlk]; rfl
        rw [hlk] at V4
        have v0 : W5.cell? ⟨p, 0, none⟩ = some (.int .i64 vv.k) := V4.c0
        have v1 : W5.cell? ⟨p, 1, none⟩ = some (.int .i64 vv.n) := V4.c1
        have v2 : W5.cell? ⟨p, 2, none⟩ = some (.string vv.s) := V4.c2
        have vlt : p < W5.heap.size := V4.lt
        have vne : u7.ownBlock ≠ some p := fun e => by have := hpne p e; omega
        have xlt : b < W5.heap.size := hblt5
        have xne : u7.ownBlock ≠ some b := fun e => by have := hbs b e; have := Hbs.out; omega
        have hga3 : W5.grownBy (World.alloc (World.drew W5) (.cells #[.int .i64 x.k.k, .int .i64 x.k.n, .string x.k.s, .int .i64 vv.k, .int .i64 vv.n, .string vv.s, .bool false] 40)) none := grown_up (grown_dr W5) (World.grownBy_alloc _ _ none)
        have hO6 := hO5.keptN hga3
        have hheap : (World.alloc (World.drew W5) (.cells #[.int .i64 x.k.k, .int .i64 x.k.n, .string x.k.s, .int .i64 vv.k, .int .i64 vv.n, .string vv.s, .bool false] 40)).heap[W5.heap.size]? = some (.cells (Wr.cells ⟨x.k, vv, false⟩).toArray 40 (0, 0)) := heap_alloc_new (World.drew W5) (.cells #[.int .i64 x.k.k, .int .i64 x.k.n, .string x.k.s, .int .i64 vv.k, .int .i64 vv.n, .string vv.s, .bool false] 40)
        obtain ⟨v', w6, hrun, hO7, hg6⟩ := app_manyR clW (by omega) 22 40 Tryd.underlying22 (.agg #[.int .i64 0, .int .i64 0, .string ByteArray.empty, .int .i64 0, .int .i64 0, .string ByteArray.empty, .bool false]) 72 infoW (by rfl) (by omega) (World.alloc (World.drew W5) (.cells #[.int .i64 x.k.k, .int .i64 x.k.n, .string x.k.s, .int .i64 vv.k, .int .i64 vv.n, .string vv.s, .bool false] 40)) bs u7 (shortBy (lookT t) (t.take j)) ⟨x.k, vv, false⟩ W5.heap.size hO6 hheap (by have := Hbs.out; have := hw5.size; have := hga3.size; omega) (by have := hsl.out; rw [List.length_take] at this; omega)
        have SA : W5.heap.size ≤ W5.drew.heap.size ∧ (∀ q off u, q < W5.heap.size → u7.ownBlock ≠ some q → W5.cell? ⟨q, off, none⟩ = some u → W5.drew.cell? ⟨q, off, none⟩ = some u) := ⟨Nat.le_refl _, fun _ _ _ _ _ h => h⟩
        have SB : W5.heap.size ≤ (World.alloc (World.drew W5) (.cells #[.int .i64 x.k.k, .int .i64 x.k.n, .string x.k.s, .int .i64 vv.k, .int .i64 vv.n, .string vv.s, .bool false] 40)).heap.size ∧ (∀ q off u, q < W5.heap.size → u7.ownBlock ≠ some q → W5.cell? ⟨q, off, none⟩ = some u → (World.alloc (World.drew W5) (.cells #[.int .i64 x.k.k, .int .i64 x.k.n, .string x.k.s, .int .i64 vv.k, .int .i64 vv.n, .string vv.s, .bool false] 40)).cell? ⟨q, off, none⟩ = some u) := ⟨hga3.size, fun _ _ _ _ _ h => cell_g h hga3⟩
        have SC : W5.heap.size ≤ w6.heap.size ∧ (∀ q off u, q < W5.heap.size → u7.ownBlock ≠ some q → W5.cell? ⟨q, off, none⟩ = some u → w6.cell? ⟨q, off, none⟩ = some u) := ⟨Nat.le_trans hga3.size hg6.size, fun q off u hq hn h => (cell_same (hg6.block q (Nat.lt_of_lt_of_le hq hga3.size) (fun e => hn e.symm)) off).trans (cell_g h hga3)⟩
        have hw6 : w1.grownBy w6 none := grown_new (grown_up hw5 hga3) hg6 (fun q e => by have := hbs q e; have := Hbs.out; omega)
        clear hO hO6 hheap hov hlk hg4 hga4 HSn HTk
        go_upto_region 9 with fail
        refine wp_region_held_drew (S := fun W0 => W5.heap.size ≤ W0.heap.size ∧ (∀ q off u, q < W5.heap.size → u7.ownBlock ≠ some q → W5.cell? ⟨q, off, none⟩ = some u → W0.cell? ⟨q, off, none⟩ = some u)) (by kernel_rfl) (SA) (fun hHeld => ?_)
        refine take_at (i := 0) (d := 34) (v := ?_) rfl rfl (by kernel_rfl) (by kernel_rfl) (by kernel_rfl) (fun _ _ _ h => h) (Or.inl ⟨by rfl, ?_⟩) (by assumption) ?_
        rotate_left
        · intro W hSW
          try dsimp only at hSW
          have g0 := hSW.2 _ _ _ xlt xne x0
          have g1 := hSW.2 _ _ _ xlt xne x1
          have g2 := hSW.2 _ _ _ xlt xne x2
          have y0 := hSW.2 _ _ _ vlt vne v0
          have y1 := hSW.2 _ _ _ vlt vne v1
          have y2 := hSW.2 _ _ _ vlt vne v2
          go_simp
          try with_reducible rfl
        try simp only [Act.put, List.setIfInBounds_toArray, List.set_cons_zero, List.set_cons_succ]
        refine take_at (i := 1) (d := 35) (v := ?_) rfl rfl (by kernel_rfl) (by kernel_rfl) (by kernel_rfl) (fun _ _ _ h => h) (Or.inl ⟨by rfl, ?_⟩) (by assumption) ?_
        rotate_left
        · intro W hSW
          try dsimp only at hSW
          have g0 := hSW.2 _ _ _ xlt xne x0
          have g1 := hSW.2 _ _ _ xlt xne x1
          have g2 := hSW.2 _ _ _ xlt xne x2
          have y0 := hSW.2 _ _ _ vlt vne v0
          have y1 := hSW.2 _ _ _ vlt vne v1
          have y2 := hSW.2 _ _ _ vlt vne v2
          go_simp
          try with_reducible rfl
        try simp only [Act.put, List.setIfInBounds_toArray, List.set_cons_zero, List.set_cons_succ]
        refine take_at (i := 2) (d := 36) (v := ?_) rfl rfl (by kernel_rfl) (by kernel_rfl) (by kernel_rfl) (fun _ _ _ h => h) (Or.inl ⟨by rfl, ?_⟩) (by assumption) ?_
        rotate_left
        · intro W hSW
          try dsimp only at hSW
          have g0 := hSW.2 _ _ _ xlt xne x0
          have g1 := hSW.2 _ _ _ xlt xne x1
          have g2 := hSW.2 _ _ _ xlt xne x2
          have y0 := hSW.2 _ _ _ vlt vne v0
          have y1 := hSW.2 _ _ _ vlt vne v1
          have y2 := hSW.2 _ _ _ vlt vne v2
          go_simp
          try with_reducible rfl
        try simp only [Act.put, List.setIfInBounds_toArray, List.set_cons_zero, List.set_cons_succ]
        refine take_at (i := 3) (d := 37) (v := ?_) rfl rfl (by kernel_rfl) (by kernel_rfl) (by kernel_rfl) (fun _ _ _ h => h) (Or.inl ⟨by rfl, ?_⟩) (by assumption) ?_
        rotate_left
        · intro W hSW
          try dsimp only at hSW
          have g0 := hSW.2 _ _ _ xlt xne x0
          have g1 := hSW.2 _ _ _ xlt xne x1
          have g2 := hSW.2 _ _ _ xlt xne x2
          have y0 := hSW.2 _ _ _ vlt vne v0
          have y1 := hSW.2 _ _ _ vlt vne v1
          have y2 := hSW.2 _ _ _ vlt vne v2
          go_simp
          try with_reducible rfl
        try simp only [Act.put, List.setIfInBounds_toArray, List.set_cons_zero, List.set_cons_succ]
        refine take_at (i := 4) (d := 38) (v := ?_) rfl rfl (by kernel_rfl) (by kernel_rfl) (by kernel_rfl) (fun _ _ _ h => h) (Or.inl ⟨by rfl, ?_⟩) (by assumption) ?_
        rotate_left
        · intro W hSW
          try dsimp only at hSW
          have g0 := hSW.2 _ _ _ xlt xne x0
          have g1 := hSW.2 _ _ _ xlt xne x1
          have g2 := hSW.2 _ _ _ xlt xne x2
          have y0 := hSW.2 _ _ _ vlt vne v0
          have y1 := hSW.2 _ _ _ vlt vne v1
          have y2 := hSW.2 _ _ _ vlt vne v2
          go_simp
          try with_reducible rfl
        try simp only [Act.put, List.setIfInBounds_toArray, List.set_cons_zero, List.set_cons_succ]
        refine take_at (i := 5) (d := 39) (v := ?_) rfl rfl (by kernel_rfl) (by kernel_rfl) (by kernel_rfl) (fun _ _ _ h => h) (Or.inl ⟨by rfl, ?_⟩) (by assumption) ?_
        rotate_left
        · intro W hSW
          try dsimp only at hSW
          have g0 := hSW.2 _ _ _ xlt xne x0
          have g1 := hSW.2 _ _ _ xlt xne x1
          have g2 := hSW.2 _ _ _ xlt xne x2
          have y0 := hSW.2 _ _ _ vlt vne v0
          have y1 := hSW.2 _ _ _ vlt vne v1
          have y2 := hSW.2 _ _ _ vlt vne v2
          go_simp
          try with_reducible rfl
        try simp only [Act.put, List.setIfInBounds_toArray, List.set_cons_zero, List.set_cons_succ]
        refine take_at (i := 6) (d := 40) (v := ?_) rfl rfl (by kernel_rfl) (by kernel_rfl) (by kernel_rfl) (fun _ _ _ h => h) (Or.inl ⟨by rfl, ?_⟩) (by assumption) ?_
        rotate_left
        · intro W hSW
          try dsimp only at hSW
          have g0 := hSW.2 _ _ _ xlt xne x0
          have g1 := hSW.2 _ _ _ xlt xne x1
          have g2 := hSW.2 _ _ _ xlt xne x2
          have y0 := hSW.2 _ _ _ vlt vne v0
          have y1 := hSW.2 _ _ _ vlt vne v1
          have y2 := hSW.2 _ _ _ vlt vne v2
          go_simp
          try with_reducible rfl
        try simp only [Act.put, List.setIfInBounds_toArray, List.set_cons_zero, List.set_cons_succ]
        refine take_at (i := 7) (d := 41) (v := ?_) rfl rfl (by kernel_rfl) (by kernel_rfl) (by kernel_rfl) (fun _ _ _ h => h) (Or.inl ⟨by rfl, ?_⟩) (by assumption) ?_
        rotate_left
        · intro W hSW
          try dsimp only at hSW
          have g0 := hSW.2 _ _ _ xlt xne x0
          have g1 := hSW.2 _ _ _ xlt xne x1
          have g2 := hSW.2 _ _ _ xlt xne x2
          have y0 := hSW.2 _ _ _ vlt vne v0
          have y1 := hSW.2 _ _ _ vlt vne v1
          have y2 := hSW.2 _ _ _ vlt vne v2
          go_simp
          try with_reducible rfl
        try simp only [Act.put, List.setIfInBounds_toArray, List.set_cons_zero, List.set_cons_succ]
        refine wpAnyH_ready (rs := [8]) (by kernel_rfl) (by simp) ?_
        refine AllReadyH.cons rfl (fun K hK => ?_) ?_
        · go_simp
          refine hK.out _ _ (SB) (fun hHeld => ?_)
          clear hK K
          try simp only [Act.put, List.setIfInBounds_toArray, List.set_cons_zero, List.set_cons_succ]
          refine wpAnyH_ready (rs := [9]) (by kernel_rfl) (by simp) ?_
          refine AllReadyH.cons rfl (fun K hK => ?_) ?_
          · refine hstep_app 43 (by rfl) (by rfl) (.tmp 34) (.tmp 42) 22 22 22 (by rfl) (by rfl) u7 (.slice (some ⟨W5.heap.size, 0, none⟩) 1 1) (by rfl) (by rfl) hrun ?_
            refine hK.out _ _ (SC) (fun hHeld => ?_)
            clear hK K
            try simp only [Act.put, List.setIfInBounds_toArray, List.set_cons_zero, List.set_cons_succ]
            refine take_at (i := 10) (d := 7) (v := ?_) rfl rfl (by kernel_rfl) (by kernel_rfl) (by kernel_rfl) (fun _ _ _ h => h) (Or.inl ⟨by rfl, ?_⟩) (by assumption) ?_
            rotate_left
            · intro W hSW
              try dsimp only at hSW
              go_simp
              try with_reducible rfl
            try simp only [Act.put, List.setIfInBounds_toArray, List.set_cons_zero, List.set_cons_succ]
            refine wpAnyH_done (by kernel_rfl) ?_ _
            go_wp2
            go_roundw
            case rel => exact ⟨j + 1, by omega, by go_num, hw6, by rw [HS.out]; exact hO7⟩
            case measure => simp [intOf]; omega
          exact AllReadyH.nil
        exact AllReadyH.nil
    · obtain rfl : j = t.length := by omega
      have hOe : OwR Wr.cells 7 40 wr bs u7 (shortT t) := by have := hO; rw [List.take_length] at this; exact this
      have HTs := hide (hOe.rw clW)
      have HTv : Hid (∀ x ∈ shortT t, x.v.wf) := short_wf htw
      have HLs := hide (look_short t)
      obtain ⟨ss, sn, su, rfl⟩ : ∃ ss sn su, u7 = .slice ss sn su := by obtain ⟨a, c, e, _⟩ := hOe.rw clW; exact ⟨_, _, _, e⟩
      obtain ⟨E, HE⟩ : ∃ E, Hid (runE (lookT t) l pc rg = E) := ⟨_, rfl⟩
      have HE2 : Hid (runE (lookT (shortT t)) l pc rg = E) := by show _ = _; rw [HLs.out]; exact HE.out
      obtain ⟨X, HX⟩ : ∃ X, Hid (runX l pc rg = X) := ⟨_, rfl⟩
      have HA : Hid (∀ W9, W.grownBy W9 none → Calls Tryd.prog 12 #[.slice b0 l.length d0, .agg #[.int .i64 pc, .slice a0 rg.length c0], .iface 28 (.slice s0 t.length u0)] W9 fun e w' => RunS e w' E X ∧ W9.grownBy w' none) := fun W9 h => by
        have := run_tab hL _ _ _ l pc rg t W9 (HI.out.keptN h) hwf (hG.keptN h) (HR.out.keptN h) hrw (HT.out.keptN h) htw
        rw [HE.out, HX.out] at this
        exact this
      have HB : Hid (∀ W9, W.grownBy W9 none → wr.grownBy W9 none → Calls Tryd.prog 12 #[.slice b0 l.length d0, .agg #[.int .i64 pc, .slice a0 rg.length c0], .iface 28 (.slice ss sn su)] W9 fun e w' => RunS e w' E X ∧ W9.grownBy w' none) := fun W9 h h' => by
        have := run_tab hL _ _ _ l pc rg (shortT t) W9 (HI.out.keptN h) hwf (hG.keptN h) (HR.out.keptN h) hrw (HTs.out.keptN h') HTv.out
        rw [HE2.out, HX.out] at this
        exact this
      have f0 := cell_g f0 hg
      have f1 := cell_g f1 hg
      go_upto_region 11 with (go_at_call 12; refine (HA.out _ hgr).mono ?_; rintro e w5 ⟨⟨a1, m1, c1, e1, n1, d1, r1, o1, t1, h1, p1, q1, rfl, hE1⟩, hg5⟩)
      have hA6 := World.grownBy_alloc w5 (.cells #[.slice a1 m1 c1, .slice e1 n1 d1, .slice r1 o1 t1, .int .i64 E.sl, .int .i64 E.en, .int .i64 E.v.k, .int .i64 E.v.n, .string E.v.s, .int .i64 E.pc, .slice h1 p1 q1] 43) none
      have hB6 := heap_alloc_new w5 (.cells #[.slice a1 m1 c1, .slice e1 n1 d1, .slice r1 o1 t1, .int .i64 E.sl, .int .i64 E.en, .int .i64 E.v.k, .int .i64 E.v.n, .string E.v.s, .int .i64 E.pc, .slice h1 p1 q1] 43)
      have hE6 := hE1.keptN hA6
      have hg6 := grown_up hgr (grown_up hg5 hA6)
      have hg56 := grown_up hg5 hA6
      have f0 := cell_g f0 (grown_up hg5 hA6)
      have f1 := cell_g f1 (grown_up hg5 hA6)
      have xc : ∀ (k : Nat) (u : Value), (#[.slice a1 m1 c1, .slice e1 n1 d1, .slice r1 o1 t1, .int .i64 E.sl, .int .i64 E.en, .int .i64 E.v.k, .int .i64 E.v.n, .string E.v.s, .int .i64 E.pc, .slice h1 p1 q1] : Array Value)[k]? = some u → (w5.alloc (.cells #[.slice a1 m1 c1, .slice e1 n1 d1, .slice r1 o1 t1, .int .i64 E.sl, .int .i64 E.en, .int .i64 E.v.k, .int .i64 E.v.n, .string E.v.s, .int .i64 E.pc, .slice h1 p1 q1] 43)).cell? ⟨w5.heap.size, k, none⟩ = some u := fun k u hu => by rw [cell_of_row _ _ _ _ _ _ hB6]; exact hu
      clear hE1 hA6 hB6 hg5
      generalize w5.alloc (.cells #[.slice a1 m1 c1, .slice e1 n1 d1, .slice r1 o1 t1, .int .i64 E.sl, .int .i64 E.en, .int .i64 E.v.k, .int .i64 E.v.n, .string E.v.s, .int .i64 E.pc, .slice h1 p1 q1] 43) = W6 at *
      obtain ⟨ea, hea⟩ : ∃ ea, w5.heap.size = ea := ⟨_, rfl⟩
      rw [hea] at xc ⊢
      go_upto_region 12 with (go_at_call 12; refine (HB.out _ hg6 hg56).mono ?_; rintro e w7 ⟨⟨a2, m2, c2, e2, n2, d2, r2, o2, t2, h2, p2, q2, rfl, hE2⟩, hg7⟩)
      have hA8 := World.grownBy_alloc w7 (.cells #[.slice a2 m2 c2, .slice e2 n2 d2, .slice r2 o2 t2, .int .i64 E.sl, .int .i64 E.en, .int .i64 E.v.k, .int .i64 E.v.n, .string E.v.s, .int .i64 E.pc, .slice h2 p2 q2] 43) none
      have hB8 := heap_alloc_new w7 (.cells #[.slice a2 m2 c2, .slice e2 n2 d2, .slice r2 o2 t2, .int .i64 E.sl, .int .i64 E.en, .int .i64 E.v.k, .int .i64 E.v.n, .string E.v.s, .int .i64 E.pc, .slice h2 p2 q2] 43)
      have hE8 := hE2.keptN hA8
      have hg68 := grown_up hg7 hA8
      have hE9 := hE6.keptN hg68
      have hg8 := grown_up hg6 hg68
      have yc : ∀ (k : Nat) (u : Value), (#[.slice a2 m2 c2, .slice e2 n2 d2, .slice r2 o2 t2, .int .i64 E.sl, .int .i64 E.en, .int .i64 E.v.k, .int .i64 E.v.n, .string E.v.s, .int .i64 E.pc, .slice h2 p2 q2] : Array Value)[k]? = some u → (w7.alloc (.cells #[.slice a2 m2 c2, .slice e2 n2 d2, .slice r2 o2 t2, .int .i64 E.sl, .int .i64 E.en, .int .i64 E.v.k, .int .i64 E.v.n, .string E.v.s, .int .i64 E.pc, .slice h2 p2 q2] 43)).cell? ⟨w7.heap.size, k, none⟩ = some u := fun k u hu => by rw [cell_of_row _ _ _ _ _ _ hB8]; exact hu
      have xd := fun k u hu => cell_g (xc k u hu) hg68
      clear hE2 hA8 hB8 hg7 hE6 xc
      generalize w7.alloc (.cells #[.slice a2 m2 c2, .slice e2 n2 d2, .slice r2 o2 t2, .int .i64 E.sl, .int .i64 E.en, .int .i64 E.v.k, .int .i64 E.v.n, .string E.v.s, .int .i64 E.pc, .slice h2 p2 q2] 43) = W8 at *
      obtain ⟨eb, heb⟩ : ∃ eb, w7.heap.size = eb := ⟨_, rfl⟩
      rw [heb] at yc ⊢
      have HS := hide (same16_self _ _ E W8 hE9 hE8)
      have x0 : W8.cell? ⟨ea, 0, none⟩ = some (.slice a1 m1 c1) := xd 0 _ rfl
      have y0 : W8.cell? ⟨eb, 0, none⟩ = some (.slice a2 m2 c2) := yc 0 _ rfl
      have x1 : W8.cell? ⟨ea, 1, none⟩ = some (.slice e1 n1 d1) := xd 1 _ rfl
      have y1 : W8.cell? ⟨eb, 1, none⟩ = some (.slice e2 n2 d2) := yc 1 _ rfl
      have x2 : W8.cell? ⟨ea, 2, none⟩ = some (.slice r1 o1 t1) := xd 2 _ rfl
      have y2 : W8.cell? ⟨eb, 2, none⟩ = some (.slice r2 o2 t2) := yc 2 _ rfl
      have x3 : W8.cell? ⟨ea, 3, none⟩ = some (.int .i64 E.sl) := xd 3 _ rfl
      have y3 : W8.cell? ⟨eb, 3, none⟩ = some (.int .i64 E.sl) := yc 3 _ rfl
      have x4 : W8.cell? ⟨ea, 4, none⟩ = some (.int .i64 E.en) := xd 4 _ rfl
      have y4 : W8.cell? ⟨eb, 4, none⟩ = some (.int .i64 E.en) := yc 4 _ rfl
      have x5 : W8.cell? ⟨ea, 5, none⟩ = some (.int .i64 E.v.k) := xd 5 _ rfl
      have y5 : W8.cell? ⟨eb, 5, none⟩ = some (.int .i64 E.v.k) := yc 5 _ rfl
      have x6 : W8.cell? ⟨ea, 6, none⟩ = some (.int .i64 E.v.n) := xd 6 _ rfl
      have y6 : W8.cell? ⟨eb, 6, none⟩ = some (.int .i64 E.v.n) := yc 6 _ rfl
      have x7 : W8.cell? ⟨ea, 7, none⟩ = some (.string E.v.s) := xd 7 _ rfl
      have y7 : W8.cell? ⟨eb, 7, none⟩ = some (.string E.v.s) := yc 7 _ rfl
      have x8 : W8.cell? ⟨ea, 8, none⟩ = some (.int .i64 E.pc) := xd 8 _ rfl
      have y8 : W8.cell? ⟨eb, 8, none⟩ = some (.int .i64 E.pc) := yc 8 _ rfl
      have x9 : W8.cell? ⟨ea, 9, none⟩ = some (.slice h1 p1 q1) := xd 9 _ rfl
      have y9 : W8.cell? ⟨eb, 9, none⟩ = some (.slice h2 p2 q2) := yc 9 _ rfl
      clear xd yc hE9 hE8
      go_wp2_with (go_at_call 13; refine HS.out.mono ?_; rintro e w9 ⟨rfl, hg9⟩)
      go_ret
      exact ⟨rfl, grown_up hg8 hg9⟩
theorem walk (v rv tv : Value) (l : List In) (pc : Int) (rg : List V) (t : List Wr) (W : World) (hI : Ins W v l) (hwf : ∀ x ∈ l, x.wf) (hr : Rw V.cells 3 W rv rg) (hrw : ∀ x ∈ rg, x.wf) (ht : Rw Wr.cells 7 W tv t) (htw : ∀ x ∈ t, x.v.wf) (hG : Glob W) (hn : t.length ≤ 1048576) :
    Calls Tryd.prog 4 #[v, .agg #[.int .i64 pc, rv], tv] W fun e w' => e = .returned (.bool true) ∧ W.grownBy w' none := walk0 look_any v rv tv l pc rg t W hI hwf hr hrw ht htw hG hn

end Go.Proofs.YthopmlgfklhagabDoor
