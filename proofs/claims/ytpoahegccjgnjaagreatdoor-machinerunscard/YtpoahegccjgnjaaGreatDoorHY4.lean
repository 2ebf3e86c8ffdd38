/- Contract, over the turned program: the document's Walk: what a key has by now. Conditions: those that each theorem states. Contract, over the turned program: the document's Walk: what a key has goes into a register. Conditions: those that each theorem states. Contract, over the turned program: the document's Walk: Do of Load. Conditions: those that each theorem states. Contract, over the turned program: the document's Walk: Do, of whatever instruction of a program that may be run. Conditions: those that each theorem states. Contract, over the turned program: the document's Run, the effects of a step. Conditions: those that the theorem states. The walk of MachineRuns, over instructions, a frame and entries as they lie in memory. Conditions: those that each theorem states. -/
import Derived.Test.YtpoahegccjgnjaaGreatDoorHY1
import Derived.Test.YtpoahegccjgnjaaGreatDoorHJo
import Derived.Test.YtpoahegccjgnjaaGreatDoorHY3
import Derived.Deep.RegionHeldLaw
import Derived.Deep.RegionLaw
import Derived.Deep.CutRange
import Derived.Test.YtpoahegccjgnjaaGreatDoorHY2
import Derived.Test.YtpoahegccjgnjaaGreatDoorHRa
import Derived.Test.YtpoahegccjgnjaaGreatDoorHRd
namespace Go.Proofs.YtpoahegccjgnjaaGreatDoor
open Go Go.RowKit
set_option linter.unusedVariables false

set_option maxRecDepth 100000 in
set_option maxHeartbeats 4000000 in
theorem xload_any (B : Bd) (g : Nat) (tv rv pv ov kv : Value) (S : Ms) (k : V) (t : List Wr) (w : World) (hM : Xm B w g tv S 0 zV false false rv pv ov kv) (hT : Rw Wr.cells 7 w tv t) :
    Calls Tryz.prog 68 #[.pointer (some ⟨g, 0, none⟩), k.val] w fun e w' => e = .returned ((S.look (lookT t) k).getD (nV 0)).val ∧ w.grownBy w' none := by
  obtain ⟨o, HO⟩ : ∃ o, Hid (S.look (lookT t) k = o) := ⟨_, rfl⟩
  rw [HO.out]
  have hA := World.grownBy_alloc w (.cells #[.int .i64 k.k, .int .i64 k.n, .string k.s] 31) none
  have hK := Vb.new w k
  have hs1 : (w.alloc (.cells #[.int .i64 k.k, .int .i64 k.n, .string k.s] 31)).heap.size = w.heap.size + 1 := World.size_alloc _ _
  have hB := World.grownBy_alloc (w.alloc (.cells #[.int .i64 k.k, .int .i64 k.n, .string k.s] 31)) (.cells #[.int .i64 0, .int .i64 0, .string ⟨#[]⟩] 31) none
  have hR := Vb.new (w.alloc (.cells #[.int .i64 k.k, .int .i64 k.n, .string k.s] 31)) ⟨0, 0, ⟨#[]⟩⟩
  rw [hs1] at hR
  dsimp only at hR
  have hK2 := hK.kept hB (by simp)
  have hgA := grown_up hA hB
  have HM1 := hide (hM.keptN hgA)
  have HT1 := hide (hT.keptN hgA)
  have hgq : g < w.heap.size := hM.lt
  unfold V.val
  go_enter Tryz.func68, Tryz.ntmps68
  go_upto_region 1 with fail
  clear hA hB hK hs1 hM hT
  generalize (w.alloc (.cells #[.int .i64 k.k, .int .i64 k.n, .string k.s] 31)).alloc (.cells #[.int .i64 0, .int .i64 0, .string ⟨#[]⟩] 31) = W at *
  obtain ⟨q, hq⟩ : ∃ q, w.heap.size = q := ⟨_, rfl⟩
  obtain ⟨p, hp⟩ : ∃ p, q + 1 = p := ⟨_, rfl⟩
  rw [hq] at hgq hR hK2 ⊢
  rw [hp] at hR ⊢
  have hpl := hR.lt
  have hwp : w.heap.size ≤ p := by omega
  go_wp2_with fail
  go_loopw [5] (fun i wr => ∃ j : Nat, j ≤ S.pu.length ∧ i = .int .i64 j ∧ W.grownBy wr none ∧ Hid (∀ i, i < j → (S.pu.getD i dW).k ≠ k)) (fun i _ => S.pu.length - (intOf i).toNat)
  case atStart => exact ⟨0, Nat.zero_le _, rfl, World.grownBy.refl _ _, fun j hj => by omega⟩
  case round =>
    obtain ⟨j, hj, rfl, hg, Hj⟩ := hrel
    have hMr := HM1.out.keptN hg
    have hKr := hK2.kept hg (by simp)
    have hRr := hR.kept hg (by simp)
    have hgr := grown_up hgA hg
    have k0 := hKr.c0
    have k1 := hKr.c1
    have k2 := hKr.c2
    by_cases hlt : j < S.pu.length
    · rcases hMr.pu.shape with ⟨_, h0⟩ | ⟨pr, pcap, rfl, hBp, hprl⟩
      · rw [h0] at hlt; cases hlt
      · have hji : (j : Int) < (S.pu.length : Int) := by omega
        have hj0 : (0 : Int) ≤ (j : Int) := by omega
        have hlm : (S.pu.length : Int) ≤ 9223372036854775807 := by
          obtain ⟨_, _, _, g1, g2, _⟩ := hMr.pu.rw clW
          unfold maxLen at g2
          omega
        have hcs := fun i u hu => OwR.cells (r := pr) hMr.pu clW rfl j hlt i u hu
        have e0 : wr.cell? ⟨pr, j * 7, none⟩ = some (.int .i64 (S.pu[j]).k.k) := hcs 0 _ rfl
        have e1 := hcs 1 _ rfl
        have e2 := hcs 2 _ rfl
        have e3 := hcs 3 _ rfl
        have e4 := hcs 4 _ rfl
        have e5 := hcs 5 _ rfl
        have e6 := hcs 6 _ rfl
        have t2 := hMr.tb.c2
        have Hl : Hid (S.pu.getD j dW = S.pu[j]) := getD_lt S.pu j dW hlt
        obtain ⟨N, HN⟩ : ∃ N, Hid (S.pu.length = N) := ⟨_, rfl⟩
        rw [HN.out] at t2 hji hlm
        clear hcs
        generalize S.pu[j] = y at *
        have heq : ∀ W0 : World, (binOp .eql 31 (.agg #[.int .i64 y.k.k, .int .i64 y.k.n, .string y.k.s]) (.agg #[.int .i64 k.k, .int .i64 k.n, .string k.s])).run Tryz.prog W0 = .ok (.bool (eqV y.k k)) W0 := fun W0 => run_eqV _ _ _ _ _ _ W0
        cases he : eqV y.k k with
        | true =>
          rw [he] at heq
          have hyx := eqV_iff.1 he
          have e := HO.out
          unfold Ms.look at e
          rw [nam_at hlt (by rw [Hl.out]; exact hyx) Hj.out] at e
          dsimp only at e
          rw [Hl.out] at e
          have HE : Hid (beh y = o) := e
          clear e he hyx HO
          have hRd := hRr.kept (grown_dr _) (by simp)
          have hgd := grown_up hgr (grown_dr _)
          obtain ⟨gn, HGN⟩ : ∃ gn, Hid (y.g = gn) := ⟨_, rfl⟩
          rw [HGN.out] at e6
          go_upto_region 4 with fail
          go_region
          cases gn with
          | true =>
            obtain rfl : o = none := by have := HE.out; unfold beh at this; rw [if_pos HGN.out] at this; exact this.symm
            go_upto_region 6 with fail
            go_wp2_with (go_at_call 46; refine (xnought_any _).mono ?_; rintro e w6 ⟨rfl, hg6⟩; have hR6 := hRd.kept hg6 (by simp); have r0 := hR6.c0; have r1 := hR6.c1; have r2 := hR6.c2; have rf := hR6.fz; have hP := vb_set hR6 (nV 0); dsimp only at r0 r1 r2)
            (try simp only [Exit.inBlock, Exit.then])
            refine bodyPost_ret (results_v1 rfl _ p _ (nV 0) rfl hP.1) rfl ?_
            exact ⟨rfl, grown_new (grown_up hgd hg6) hP.2 (fun j e => by cases e; exact hwp)⟩
          | false =>
            obtain rfl : o = some y.v := by have := HE.out; unfold beh at this; rw [if_neg (by rw [HGN.out]; simp)] at this; exact this.symm
            have r0 := hRr.c0
            have r1 := hRr.c1
            have r2 := hRr.c2
            have rf := hRr.fz
            dsimp only at r0 r1 r2
            have hP := vb_set hRr y.v
            have hPd := hP.1.kept (grown_dr _) (by simp)
            go_upto_region 7 with fail
            go_wp2_with fail
            (try simp only [Exit.inBlock, Exit.then])
            refine bodyPost_ret (results_v1 rfl _ p _ y.v rfl hPd) rfl ?_
            exact ⟨rfl, grown_up (grown_new hgr hP.2 (fun j e => by cases e; exact hwp)) (grown_dr _)⟩
        | false =>
          rw [he] at heq
          have Hj' : Hid (∀ i, i < j + 1 → (S.pu.getD i dW).k ≠ k) := by
            intro i hi
            rcases Nat.lt_or_ge i j with h | h
            · exact Hj.out i h
            · obtain rfl : i = j := by omega
              rw [Hl.out]
              intro e
              rw [eqV_iff.2 e] at he
              cases he
          clear he
          go_upto_region 4 with fail
          go_region
          go_wp2_with fail
          go_roundw
          case rel => exact ⟨j + 1, by omega, by go_num, grown_up hg (grown_dr _), Hj'⟩
          case measure => simp [intOf]; omega
    · obtain rfl : j = S.pu.length := by omega
      have e := HO.out
      unfold Ms.look at e
      rw [nam_not Hj.out] at e
      dsimp only at e
      obtain ⟨d2, HD⟩ : ∃ d2, Hid (obV o = d2) := ⟨_, rfl⟩
      obtain ⟨z, HZ⟩ : ∃ z, Hid (o.isSome = z) := ⟨_, rfl⟩
      have HLk : Hid (∀ W0, wr.grownBy W0 none → Calls Tryz.prog 86 #[tv, .agg #[.int .i64 k.k, .int .i64 k.n, .string k.s]] W0 fun e w' => e = .returned (.tuple #[.agg #[.int .i64 d2.k, .int .i64 d2.n, .string d2.s], .bool z]) ∧ W0.grownBy w' none) := by
        intro W0 hg0
        have h := rlook_any tv t k W0 ((HT1.out.keptN hg).keptN hg0)
        rw [e, HD.out, HZ.out] at h
        exact h
      clear e
      have t2 := hMr.tb.c2
      have t14 := hMr.tb.c14
      have dr := grown_dr wr
      have hpl : ∃ pa pc, pv = .slice pa S.pu.length pc := by
        rcases hMr.pu.shape with ⟨e, h0⟩ | ⟨pr, pcap, e, _⟩
        · exact ⟨none, 0, by rw [e, h0]; rfl⟩
        · exact ⟨_, _, e⟩
      obtain ⟨pa, pc, rfl⟩ := hpl
      go_upto_region 8 with fail
      go_cut [6, 7] from 48 to 56 (fun t6 t7 W4 => ∃ p5, t6 = .pointer (some ⟨p5, 0, none⟩) ∧ t7 = .bool z ∧ Vb W4 p5 d2 ∧ wr.heap.size ≤ p5 ∧ wr.grownBy W4 none)
      case first =>
        refine wp_region_held_drew (S := fun W0 => wr.grownBy W0 none) (by kernel_rfl) (dr) (fun hHeld => ?_)
        refine take_at (i := 0) (d := 49) (v := ?_) rfl rfl (by kernel_rfl) (by kernel_rfl) (by kernel_rfl) (fun _ _ _ h => h) (Or.inl ⟨by rfl, ?_⟩) (by assumption) ?_
        rotate_left
        · intro W hSW
          try dsimp only at hSW
          have g0 := cell_g t14 hSW
          have g1 := cell_g k0 hSW
          have g2 := cell_g k1 hSW
          have g3 := cell_g k2 hSW
          go_simp
          try with_reducible rfl
        try simp only [Act.put, List.setIfInBounds_toArray, List.set_cons_zero, List.set_cons_succ]
        refine take_at (i := 1) (d := 50) (v := ?_) rfl rfl (by kernel_rfl) (by kernel_rfl) (by kernel_rfl) (fun _ _ _ h => h) (Or.inl ⟨by rfl, ?_⟩) (by assumption) ?_
        rotate_left
        · intro W hSW
          try dsimp only at hSW
          have g0 := cell_g t14 hSW
          have g1 := cell_g k0 hSW
          have g2 := cell_g k1 hSW
          have g3 := cell_g k2 hSW
          go_simp
          try with_reducible rfl
        try simp only [Act.put, List.setIfInBounds_toArray, List.set_cons_zero, List.set_cons_succ]
        refine take_at (i := 2) (d := 51) (v := ?_) rfl rfl (by kernel_rfl) (by kernel_rfl) (by kernel_rfl) (fun _ _ _ h => h) (Or.inl ⟨by rfl, ?_⟩) (by assumption) ?_
        rotate_left
        · intro W hSW
          try dsimp only at hSW
          have g0 := cell_g t14 hSW
          have g1 := cell_g k0 hSW
          have g2 := cell_g k1 hSW
          have g3 := cell_g k2 hSW
          go_simp
          try with_reducible rfl
        try simp only [Act.put, List.setIfInBounds_toArray, List.set_cons_zero, List.set_cons_succ]
        refine take_at (i := 3) (d := 52) (v := ?_) rfl rfl (by kernel_rfl) (by kernel_rfl) (by kernel_rfl) (fun _ _ _ h => h) (Or.inl ⟨by rfl, ?_⟩) (by assumption) ?_
        rotate_left
        · intro W hSW
          try dsimp only at hSW
          have g0 := cell_g t14 hSW
          have g1 := cell_g k0 hSW
          have g2 := cell_g k1 hSW
          have g3 := cell_g k2 hSW
          go_simp
          try with_reducible rfl
        try simp only [Act.put, List.setIfInBounds_toArray, List.set_cons_zero, List.set_cons_succ]
        refine take_at (i := 4) (d := 53) (v := ?_) rfl rfl (by kernel_rfl) (by kernel_rfl) (by kernel_rfl) (fun _ _ _ h => h) (Or.inl ⟨by rfl, ?_⟩) (by assumption) ?_
        rotate_left
        · intro W hSW
          try dsimp only at hSW
          have g0 := cell_g t14 hSW
          have g1 := cell_g k0 hSW
          have g2 := cell_g k1 hSW
          have g3 := cell_g k2 hSW
          go_simp
          try with_reducible rfl
        try simp only [Act.put, List.setIfInBounds_toArray, List.set_cons_zero, List.set_cons_succ]
        refine wpAnyH_ready (rs := [5, 9]) (by kernel_rfl) (by simp) ?_
        refine AllReadyH.cons rfl (fun K hK => ?_) ?_
        · go_simp
          go_wp2_with (go_at_call 86; refine (HLk.out _ dr).mono ?_; rintro e y1 ⟨rfl, g1⟩)
          have G1 := grown_up dr g1
          refine hK.out _ _ (G1) (fun hHeld => ?_)
          clear hK K
          try simp only [Act.put, List.setIfInBounds_toArray, List.set_cons_zero, List.set_cons_succ]
          refine take_at (i := 6) (d := 48) (v := ?_) rfl rfl (by kernel_rfl) (by kernel_rfl) (by kernel_rfl) (fun _ _ _ h => h) (Or.inl ⟨by rfl, ?_⟩) (by assumption) ?_
          rotate_left
          · intro W hSW
            try dsimp only at hSW
            go_simp
            try with_reducible rfl
          try simp only [Act.put, List.setIfInBounds_toArray, List.set_cons_zero, List.set_cons_succ]
          refine take_at (i := 7) (d := 55) (v := ?_) rfl rfl (by kernel_rfl) (by kernel_rfl) (by kernel_rfl) (fun _ _ _ h => h) (Or.inl ⟨by rfl, ?_⟩) (by assumption) ?_
          rotate_left
          · intro W hSW
            try dsimp only at hSW
            go_simp
            try with_reducible rfl
          try simp only [Act.put, List.setIfInBounds_toArray, List.set_cons_zero, List.set_cons_succ]
          refine take_at (i := 8) (d := 56) (v := ?_) rfl rfl (by kernel_rfl) (by kernel_rfl) (by kernel_rfl) (fun _ _ _ h => h) (Or.inl ⟨by rfl, ?_⟩) (by assumption) ?_
          rotate_left
          · intro W hSW
            try dsimp only at hSW
            go_simp
            try with_reducible rfl
          try simp only [Act.put, List.setIfInBounds_toArray, List.set_cons_zero, List.set_cons_succ]
          refine wpAnyH_ready (rs := [9]) (by kernel_rfl) (by simp) ?_
          refine AllReadyH.cons rfl (fun K hK => ?_) ?_
          · go_simp
            have G2 : wr.grownBy (World.alloc y1 (.cells #[.int .i64 0, .int .i64 0, .string ⟨#[]⟩] 31)) none := grown_up G1 (World.grownBy_alloc _ _ none)
            refine hK.out _ _ (G2) (fun hHeld => ?_)
            clear hK K
            try simp only [Act.put, List.setIfInBounds_toArray, List.set_cons_zero, List.set_cons_succ]
            have U2 : Vb (World.alloc y1 (.cells #[.int .i64 0, .int .i64 0, .string ⟨#[]⟩] 31)) y1.heap.size ⟨0, 0, ⟨#[]⟩⟩ := Vb.new _ ⟨0, 0, ⟨#[]⟩⟩
            have hp5 : wr.heap.size ≤ y1.heap.size := G1.size
            generalize (World.alloc y1 (.cells #[.int .i64 0, .int .i64 0, .string ⟨#[]⟩] 31)) = y2 at *
            obtain ⟨p5, hq5⟩ : ∃ p5, y1.heap.size = p5 := ⟨_, rfl⟩
            have hp5 : wr.heap.size ≤ p5 := hq5 ▸ hp5
            rw [hq5] at U2 ⊢
            refine wpAnyH_ready (rs := [10]) (by kernel_rfl) (by simp) ?_
            refine AllReadyH.cons rfl (fun K hK => ?_) ?_
            · have v0 := U2.c0
              have v1 := U2.c1
              have v2 := U2.c2
              have vf := U2.fz
              go_simp
              have hP := vb_set U2 d2
              have hGe := grown_new G2 hP.2 (fun j e => by cases e; exact hp5)
              refine hK.out _ _ (hGe) (fun hHeld => ?_)
              clear hK K
              try simp only [Act.put, List.setIfInBounds_toArray, List.set_cons_zero, List.set_cons_succ]
              refine take_at (i := 11) (d := 7) (v := ?_) rfl rfl (by kernel_rfl) (by kernel_rfl) (by kernel_rfl) (fun _ _ _ h => h) (Or.inl ⟨by rfl, ?_⟩) (by assumption) ?_
              rotate_left
              · intro W hSW
                try dsimp only at hSW
                go_simp
                try with_reducible rfl
              try simp only [Act.put, List.setIfInBounds_toArray, List.set_cons_zero, List.set_cons_succ]
              refine wpAnyH_done (by kernel_rfl) ?_ _
              go_wp2_with fail
              go_meet
              exact ⟨p5, rfl, rfl, hP.1, hp5, hGe⟩
            exact AllReadyH.nil
          exact AllReadyH.nil
        refine AllReadyH.cons rfl (fun K hK => ?_) ?_
        · go_simp
          have G1 : wr.grownBy (World.drew (World.alloc wr (.cells #[.int .i64 0, .int .i64 0, .string ⟨#[]⟩] 31))) none := grown_up (World.grownBy_alloc wr (.cells #[.int .i64 0, .int .i64 0, .string ⟨#[]⟩] 31) none) (grown_dr _)
          refine hK.out _ _ (G1) (fun hHeld => ?_)
          clear hK K
          try simp only [Act.put, List.setIfInBounds_toArray, List.set_cons_zero, List.set_cons_succ]
          have U1 : Vb (World.drew (World.alloc wr (.cells #[.int .i64 0, .int .i64 0, .string ⟨#[]⟩] 31))) wr.heap.size ⟨0, 0, ⟨#[]⟩⟩ := (Vb.new wr ⟨0, 0, ⟨#[]⟩⟩).kept (grown_dr _) (by simp)
          have hp5 : wr.heap.size ≤ wr.heap.size := Nat.le_refl _
          generalize (World.drew (World.alloc wr (.cells #[.int .i64 0, .int .i64 0, .string ⟨#[]⟩] 31))) = y1 at *
          obtain ⟨p5, hq5⟩ : ∃ p5, wr.heap.size = p5 := ⟨_, rfl⟩
          have hp5 : wr.heap.size ≤ p5 := hq5 ▸ hp5
          rw [hq5] at U1 ⊢
          refine wpAnyH_ready (rs := [5]) (by kernel_rfl) (by simp) ?_
          refine AllReadyH.cons rfl (fun K hK => ?_) ?_
          · go_simp
            go_wp2_with (go_at_call 86; refine (HLk.out _ G1).mono ?_; rintro e y2 ⟨rfl, g2⟩)
            have G2 := grown_up G1 g2
            have U2 := U1.kept g2 (by simp)
            refine hK.out _ _ (G2) (fun hHeld => ?_)
            clear hK K
            try simp only [Act.put, List.setIfInBounds_toArray, List.set_cons_zero, List.set_cons_succ]
            refine take_at (i := 6) (d := 48) (v := ?_) rfl rfl (by kernel_rfl) (by kernel_rfl) (by kernel_rfl) (fun _ _ _ h => h) (Or.inl ⟨by rfl, ?_⟩) (by assumption) ?_
            rotate_left
            · intro W hSW
              try dsimp only at hSW
              go_simp
              try with_reducible rfl
            try simp only [Act.put, List.setIfInBounds_toArray, List.set_cons_zero, List.set_cons_succ]
            refine take_at (i := 7) (d := 55) (v := ?_) rfl rfl (by kernel_rfl) (by kernel_rfl) (by kernel_rfl) (fun _ _ _ h => h) (Or.inl ⟨by rfl, ?_⟩) (by assumption) ?_
            rotate_left
            · intro W hSW
              try dsimp only at hSW
              go_simp
              try with_reducible rfl
            try simp only [Act.put, List.setIfInBounds_toArray, List.set_cons_zero, List.set_cons_succ]
            refine take_at (i := 8) (d := 56) (v := ?_) rfl rfl (by kernel_rfl) (by kernel_rfl) (by kernel_rfl) (fun _ _ _ h => h) (Or.inl ⟨by rfl, ?_⟩) (by assumption) ?_
            rotate_left
            · intro W hSW
              try dsimp only at hSW
              go_simp
              try with_reducible rfl
            try simp only [Act.put, List.setIfInBounds_toArray, List.set_cons_zero, List.set_cons_succ]
            refine wpAnyH_ready (rs := [10]) (by kernel_rfl) (by simp) ?_
            refine AllReadyH.cons rfl (fun K hK => ?_) ?_
            · have v0 := U2.c0
              have v1 := U2.c1
              have v2 := U2.c2
              have vf := U2.fz
              go_simp
              have hP := vb_set U2 d2
              have hGe := grown_new G2 hP.2 (fun j e => by cases e; exact hp5)
              refine hK.out _ _ (hGe) (fun hHeld => ?_)
              clear hK K
              try simp only [Act.put, List.setIfInBounds_toArray, List.set_cons_zero, List.set_cons_succ]
              refine take_at (i := 11) (d := 7) (v := ?_) rfl rfl (by kernel_rfl) (by kernel_rfl) (by kernel_rfl) (fun _ _ _ h => h) (Or.inl ⟨by rfl, ?_⟩) (by assumption) ?_
              rotate_left
              · intro W hSW
                try dsimp only at hSW
                go_simp
                try with_reducible rfl
              try simp only [Act.put, List.setIfInBounds_toArray, List.set_cons_zero, List.set_cons_succ]
              refine wpAnyH_done (by kernel_rfl) ?_ _
              go_wp2_with fail
              go_meet
              exact ⟨p5, rfl, rfl, hP.1, hp5, hGe⟩
            exact AllReadyH.nil
          exact AllReadyH.nil
        exact AllReadyH.nil

      case rest =>
        obtain ⟨p5, rfl, rfl, hV, hp5, hg4⟩ := hcut
        have hR4 := hRr.kept hg4 (by simp)
        have HG4 := hide (grown_up hgr hg4)
        have hpp : p < wr.heap.size := hRr.lt
        clear t2 t14 k0 k1 k2 dr HLk
        cases o with
        | none =>
          obtain rfl : z = false := HZ.out.symm
          go_upto_region 10 with fail
          go_wp2_with (go_at_call 46; refine (xnought_any _).mono ?_; rintro e w6 ⟨rfl, hg6⟩; have hR6 := hR4.kept hg6 (by simp); have r0 := hR6.c0; have r1 := hR6.c1; have r2 := hR6.c2; have rf := hR6.fz; have hP := vb_set hR6 (nV 0); dsimp only at r0 r1 r2)
          (try simp only [Exit.inBlock, Exit.then])
          refine bodyPost_ret (results_v1 rfl _ p _ (nV 0) rfl hP.1) rfl ?_
          exact ⟨rfl, grown_new (grown_up HG4.out hg6) hP.2 (fun j e => by cases e; exact hwp)⟩
        | some v =>
          obtain rfl : z = true := HZ.out.symm
          obtain rfl : v = d2 := HD.out
          have v0 := hV.c0
          have v1 := hV.c1
          have v2 := hV.c2
          have r0 := hR4.c0
          have r1 := hR4.c1
          have r2 := hR4.c2
          have rf := hR4.fz
          dsimp only at r0 r1 r2
          have hP := vb_set hR4 v
          go_wp2
          (try simp only [Exit.inBlock, Exit.then])
          refine bodyPost_ret (results_v1 rfl _ p _ v rfl hP.1) rfl ?_
          exact ⟨rfl, grown_new HG4.out hP.2 (fun j e => by cases e; exact hwp)⟩

end Go.Proofs.YtpoahegccjgnjaaGreatDoor

namespace Go.Proofs.YtpoahegccjgnjaaGreatDoor
open Go Go.RowKit
set_option linter.unusedVariables false

set_option maxRecDepth 100000 in
set_option maxHeartbeats 4000000 in
theorem xeff_load (B : Bd) (g : Nat) (tv rv pv ov kv : Value) (S : Ms) (x : V) (a : Nat) (b : Nat) (la : a < 6) (lb : b < 6) (c : Int) (w : World) (hM : Xm B w g tv S 0 zV false false rv pv ov kv) (h6 : S.rg.length = 6) (hp0 : 0 ≤ S.pc) (hp1 : S.pc ≤ 1000) (t : List Wr) (hT : Rw Wr.cells 7 w tv t) :
    Calls Tryz.prog 47 #[.pointer (some ⟨g, 0, none⟩), (⟨11, (a : Int), (b : Int), c, x⟩ : In).val] w fun e w' => XP B w g tv (if okC ((S.look (lookT t) (S.at (b : Int))).getD (nV 0)) = true then Rs.go (S.set (a : Int) ((S.look (lookT t) (S.at (b : Int))).getD (nV 0))) else Rs.bad) e w' := by
  obtain ⟨r, cap, rfl, hBr, hr, hrg⟩ := xt_cells hM h6
  have hgb := World.grownBy_alloc w (.cells #[.int .i64 11, .int .i64 (a : Int), .int .i64 (b : Int), .int .i64 c, .int .i64 x.k, .int .i64 x.n, .string x.s] 44) none
  have hb : Ib (w.alloc (.cells #[.int .i64 11, .int .i64 (a : Int), .int .i64 (b : Int), .int .i64 c, .int .i64 x.k, .int .i64 x.n, .string x.s] 44)) w.heap.size ⟨11, (a : Int), (b : Int), c, x⟩ := Ib.new w ⟨11, (a : Int), (b : Int), c, x⟩
  have hM1 := hM.keptN hgb
  have hT1 := hT.keptN hgb
  have la' : (a : Int) < 6 := by omega
  have lb' : (b : Int) < 6 := by omega
  obtain ⟨y, HY⟩ : ∃ y, Hid ((S.look (lookT t) (S.at (b : Int))).getD (nV 0) = y) := ⟨_, rfl⟩
  rw [HY.out]
  obtain ⟨R, HR⟩ : ∃ R, Hid ((if okC y = true then Rs.go (S.set (a : Int) y) else Rs.bad) = R) := ⟨_, rfl⟩
  rw [HR.out]
  unfold In.val
  dsimp only
  go_enter Tryz.func47, Tryz.ntmps47
  go_upto_region 1 with fail
  have HG1 := hide (kp_n (B := B) hgb)
  generalize w.alloc (.cells #[.int .i64 11, .int .i64 (a : Int), .int .i64 (b : Int), .int .i64 c, .int .i64 x.k, .int .i64 x.n, .string x.s] 44) = W at *
  have hqg : g < w.heap.size := hM.lt
  generalize hq : w.heap.size = q at *
  obtain ⟨b0, b1, b2, b3, b4, b5, b6⟩ := hb.cs
  dsimp only at b0 b1 b2 b3 b4 b5 b6
  have t1 := hM1.tb.c1
  obtain ⟨ar0, ar1, ar2, rf⟩ := xg_cells hM1 h6 a la
  obtain ⟨br0, br1, br2, rf⟩ := xg_cells hM1 h6 b lb
  have dr := grown_dr W
  have HLd : Hid (∀ W0, W.grownBy W0 none → Calls Tryz.prog 68 #[.pointer (some ⟨g, 0, none⟩), .agg #[.int .i64 (S.at (b : Int)).k, .int .i64 (S.at (b : Int)).n, .string (S.at (b : Int)).s]] W0 fun e w' => e = .returned (.agg #[.int .i64 y.k, .int .i64 y.n, .string y.s]) ∧ W0.grownBy w' none) := by
    intro W0 hg0
    have h := xload_any B g tv _ pv ov kv S (S.at (b : Int)) t W0 (hM1.keptN hg0) (hT1.keptN hg0)
    rw [HY.out] at h
    exact h
  go_upto_region 3 with fail
  go_cut [4] from 10 to 19 (fun t4 W4 => ∃ p5, t4 = .pointer (some ⟨p5, 0, none⟩) ∧ Vb W4 p5 y ∧ W.heap.size ≤ p5 ∧ W.grownBy W4 none)
  case first =>
    refine wp_region_held_drew (S := fun W0 => W.grownBy W0 none) (by kernel_rfl) (dr) (fun hHeld => ?_)
    refine take_at (i := 0) (d := 10) (v := ?_) rfl rfl (by kernel_rfl) (by kernel_rfl) (by kernel_rfl) (fun _ _ _ h => h) (Or.inl ⟨by rfl, ?_⟩) (by assumption) ?_
    rotate_left
    · intro W hSW
      try dsimp only at hSW
      have g0 := cell_g t1 hSW
      have g1 := cell_g b2 hSW
      have g2 := cell_g br0 hSW
      have g3 := cell_g br1 hSW
      have g4 := cell_g br2 hSW
      go_simp
      try with_reducible rfl
    try simp only [Act.put, List.setIfInBounds_toArray, List.set_cons_zero, List.set_cons_succ]
    refine take_at (i := 1) (d := 11) (v := ?_) rfl rfl (by kernel_rfl) (by kernel_rfl) (by kernel_rfl) (fun _ _ _ h => h) (Or.inl ⟨by rfl, ?_⟩) (by assumption) ?_
    rotate_left
    · intro W hSW
      try dsimp only at hSW
      have g0 := cell_g t1 hSW
      have g1 := cell_g b2 hSW
      have g2 := cell_g br0 hSW
      have g3 := cell_g br1 hSW
      have g4 := cell_g br2 hSW
      go_simp
      try with_reducible rfl
    try simp only [Act.put, List.setIfInBounds_toArray, List.set_cons_zero, List.set_cons_succ]
    refine take_at (i := 2) (d := 12) (v := ?_) rfl rfl (by kernel_rfl) (by kernel_rfl) (by kernel_rfl) (fun _ _ _ h => h) (Or.inl ⟨by rfl, ?_⟩) (by assumption) ?_
    rotate_left
    · intro W hSW
      try dsimp only at hSW
      have g0 := cell_g t1 hSW
      have g1 := cell_g b2 hSW
      have g2 := cell_g br0 hSW
      have g3 := cell_g br1 hSW
      have g4 := cell_g br2 hSW
      go_simp
      try with_reducible rfl
    try simp only [Act.put, List.setIfInBounds_toArray, List.set_cons_zero, List.set_cons_succ]
    refine take_at (i := 3) (d := 13) (v := ?_) rfl rfl (by kernel_rfl) (by kernel_rfl) (by kernel_rfl) (fun _ _ _ h => h) (Or.inl ⟨by rfl, ?_⟩) (by assumption) ?_
    rotate_left
    · intro W hSW
      try dsimp only at hSW
      have g0 := cell_g t1 hSW
      have g1 := cell_g b2 hSW
      have g2 := cell_g br0 hSW
      have g3 := cell_g br1 hSW
      have g4 := cell_g br2 hSW
      go_simp
      try with_reducible rfl
    try simp only [Act.put, List.setIfInBounds_toArray, List.set_cons_zero, List.set_cons_succ]
    refine take_at (i := 4) (d := 14) (v := ?_) rfl rfl (by kernel_rfl) (by kernel_rfl) (by kernel_rfl) (fun _ _ _ h => h) (Or.inl ⟨by rfl, ?_⟩) (by assumption) ?_
    rotate_left
    · intro W hSW
      try dsimp only at hSW
      have g0 := cell_g t1 hSW
      have g1 := cell_g b2 hSW
      have g2 := cell_g br0 hSW
      have g3 := cell_g br1 hSW
      have g4 := cell_g br2 hSW
      go_simp
      try with_reducible rfl
    try simp only [Act.put, List.setIfInBounds_toArray, List.set_cons_zero, List.set_cons_succ]
    refine take_at (i := 5) (d := 15) (v := ?_) rfl rfl (by kernel_rfl) (by kernel_rfl) (by kernel_rfl) (fun _ _ _ h => h) (Or.inl ⟨by rfl, ?_⟩) (by assumption) ?_
    rotate_left
    · intro W hSW
      try dsimp only at hSW
      have g0 := cell_g t1 hSW
      have g1 := cell_g b2 hSW
      have g2 := cell_g br0 hSW
      have g3 := cell_g br1 hSW
      have g4 := cell_g br2 hSW
      go_simp
      try with_reducible rfl
    try simp only [Act.put, List.setIfInBounds_toArray, List.set_cons_zero, List.set_cons_succ]
    refine take_at (i := 6) (d := 16) (v := ?_) rfl rfl (by kernel_rfl) (by kernel_rfl) (by kernel_rfl) (fun _ _ _ h => h) (Or.inl ⟨by rfl, ?_⟩) (by assumption) ?_
    rotate_left
    · intro W hSW
      try dsimp only at hSW
      have g0 := cell_g t1 hSW
      have g1 := cell_g b2 hSW
      have g2 := cell_g br0 hSW
      have g3 := cell_g br1 hSW
      have g4 := cell_g br2 hSW
      go_simp
      try with_reducible rfl
    try simp only [Act.put, List.setIfInBounds_toArray, List.set_cons_zero, List.set_cons_succ]
    refine take_at (i := 7) (d := 17) (v := ?_) rfl rfl (by kernel_rfl) (by kernel_rfl) (by kernel_rfl) (fun _ _ _ h => h) (Or.inl ⟨by rfl, ?_⟩) (by assumption) ?_
    rotate_left
    · intro W hSW
      try dsimp only at hSW
      have g0 := cell_g t1 hSW
      have g1 := cell_g b2 hSW
      have g2 := cell_g br0 hSW
      have g3 := cell_g br1 hSW
      have g4 := cell_g br2 hSW
      go_simp
      try with_reducible rfl
    try simp only [Act.put, List.setIfInBounds_toArray, List.set_cons_zero, List.set_cons_succ]
    refine take_at (i := 8) (d := 18) (v := ?_) rfl rfl (by kernel_rfl) (by kernel_rfl) (by kernel_rfl) (fun _ _ _ h => h) (Or.inl ⟨by rfl, ?_⟩) (by assumption) ?_
    rotate_left
    · intro W hSW
      try dsimp only at hSW
      have g0 := cell_g t1 hSW
      have g1 := cell_g b2 hSW
      have g2 := cell_g br0 hSW
      have g3 := cell_g br1 hSW
      have g4 := cell_g br2 hSW
      go_simp
      try with_reducible rfl
    try simp only [Act.put, List.setIfInBounds_toArray, List.set_cons_zero, List.set_cons_succ]
    refine wpAnyH_ready (rs := [9, 10]) (by kernel_rfl) (by simp) ?_
    refine AllReadyH.cons rfl (fun K hK => ?_) ?_
    · go_simp
      go_wp2_with (go_at_call 68; refine (HLd.out _ dr).mono ?_; rintro e y1 ⟨rfl, g1⟩)
      have G1 := grown_up dr g1
      refine hK.out _ _ (G1) (fun hHeld => ?_)
      clear hK K
      try simp only [Act.put, List.setIfInBounds_toArray, List.set_cons_zero, List.set_cons_succ]
      refine wpAnyH_ready (rs := [10]) (by kernel_rfl) (by simp) ?_
      refine AllReadyH.cons rfl (fun K hK => ?_) ?_
      · go_simp
        have G2 : W.grownBy (World.alloc y1 (.cells #[.int .i64 0, .int .i64 0, .string ⟨#[]⟩] 31)) none := grown_up G1 (World.grownBy_alloc _ _ none)
        refine hK.out _ _ (G2) (fun hHeld => ?_)
        clear hK K
        try simp only [Act.put, List.setIfInBounds_toArray, List.set_cons_zero, List.set_cons_succ]
        have U2 : Vb (World.alloc y1 (.cells #[.int .i64 0, .int .i64 0, .string ⟨#[]⟩] 31)) y1.heap.size ⟨0, 0, ⟨#[]⟩⟩ := Vb.new _ ⟨0, 0, ⟨#[]⟩⟩
        have hp5 : W.heap.size ≤ y1.heap.size := G1.size
        generalize (World.alloc y1 (.cells #[.int .i64 0, .int .i64 0, .string ⟨#[]⟩] 31)) = y2 at *
        obtain ⟨p5, hq5⟩ : ∃ p5, y1.heap.size = p5 := ⟨_, rfl⟩
        have hp5 : W.heap.size ≤ p5 := hq5 ▸ hp5
        rw [hq5] at U2 ⊢
        refine wpAnyH_ready (rs := [11]) (by kernel_rfl) (by simp) ?_
        refine AllReadyH.cons rfl (fun K hK => ?_) ?_
        · have v0 := U2.c0
          have v1 := U2.c1
          have v2 := U2.c2
          have vf := U2.fz
          go_simp
          have hP := vb_set U2 y
          have hGe := grown_new G2 hP.2 (fun j e => by cases e; exact hp5)
          refine hK.out _ _ (hGe) (fun hHeld => ?_)
          clear hK K
          try simp only [Act.put, List.setIfInBounds_toArray, List.set_cons_zero, List.set_cons_succ]
          refine wpAnyH_done (by kernel_rfl) ?_ _
          go_wp2_with fail
          go_meet
          exact ⟨p5, rfl, hP.1, hp5, hGe⟩
        exact AllReadyH.nil
      exact AllReadyH.nil
    refine AllReadyH.cons rfl (fun K hK => ?_) ?_
    · go_simp
      have G1 : W.grownBy (World.drew (World.alloc W (.cells #[.int .i64 0, .int .i64 0, .string ⟨#[]⟩] 31))) none := grown_up (World.grownBy_alloc W (.cells #[.int .i64 0, .int .i64 0, .string ⟨#[]⟩] 31) none) (grown_dr _)
      refine hK.out _ _ (G1) (fun hHeld => ?_)
      clear hK K
      try simp only [Act.put, List.setIfInBounds_toArray, List.set_cons_zero, List.set_cons_succ]
      have U1 : Vb (World.drew (World.alloc W (.cells #[.int .i64 0, .int .i64 0, .string ⟨#[]⟩] 31))) W.heap.size ⟨0, 0, ⟨#[]⟩⟩ := (Vb.new W ⟨0, 0, ⟨#[]⟩⟩).kept (grown_dr _) (by simp)
      have hp5 : W.heap.size ≤ W.heap.size := Nat.le_refl _
      generalize (World.drew (World.alloc W (.cells #[.int .i64 0, .int .i64 0, .string ⟨#[]⟩] 31))) = y1 at *
      obtain ⟨p5, hq5⟩ : ∃ p5, W.heap.size = p5 := ⟨_, rfl⟩
      have hp5 : W.heap.size ≤ p5 := hq5 ▸ hp5
      rw [hq5] at U1 ⊢
      refine wpAnyH_ready (rs := [9]) (by kernel_rfl) (by simp) ?_
      refine AllReadyH.cons rfl (fun K hK => ?_) ?_
      · go_simp
        go_wp2_with (go_at_call 68; refine (HLd.out _ G1).mono ?_; rintro e y2 ⟨rfl, g2⟩)
        have G2 := grown_up G1 g2
        have U2 := U1.kept g2 (by simp)
        refine hK.out _ _ (G2) (fun hHeld => ?_)
        clear hK K
        try simp only [Act.put, List.setIfInBounds_toArray, List.set_cons_zero, List.set_cons_succ]
        refine wpAnyH_ready (rs := [11]) (by kernel_rfl) (by simp) ?_
        refine AllReadyH.cons rfl (fun K hK => ?_) ?_
        · have v0 := U2.c0
          have v1 := U2.c1
          have v2 := U2.c2
          have vf := U2.fz
          go_simp
          have hP := vb_set U2 y
          have hGe := grown_new G2 hP.2 (fun j e => by cases e; exact hp5)
          refine hK.out _ _ (hGe) (fun hHeld => ?_)
          clear hK K
          try simp only [Act.put, List.setIfInBounds_toArray, List.set_cons_zero, List.set_cons_succ]
          refine wpAnyH_done (by kernel_rfl) ?_ _
          go_wp2_with fail
          go_meet
          exact ⟨p5, rfl, hP.1, hp5, hGe⟩
        exact AllReadyH.nil
      exact AllReadyH.nil
    exact AllReadyH.nil
  case rest =>
    obtain ⟨p, rfl, hV, hpl, hg4⟩ := hcut
    have hM4 := hM1.keptN hg4
    have hb4 := hb.kept hg4 (by simp)
    have HG4 := hide (HG1.out.then (kp_n hg4))
    have hgp : g ≠ p := by have := hM1.lt; omega
    have hrp : r ≠ p := by have := hM1.rg.lt r rfl; omega
    clear dr t1 b0 b1 b2 b3 b4 b5 b6 ar0 ar1 ar2 br0 br1 br2 rf hM1 hb HG1 hg4 HLd
    generalize wc = W4 at *
    have v0 := hV.c0
    have v1 := hV.c1
    have v2 := hV.c2
    have his := ris_any y W4
    unfold V.val at his
    cases hc : okC y with
    | true =>
      rw [hc] at his
      have e := HR.out
      rw [hc, if_pos rfl] at e
      subst e
      clear hc HR
      go_upto_region 5 with (go_at_call 20; refine his.mono ?_; rintro e w5 ⟨rfl, hg5⟩; have hM5 := hM4.keptN hg5; have k13 := hM5.tb.c13; have f13 := hM5.tb.fz 13)
      have hB := hM5.sBd false
      have hb6 := (hb4.kept hg5 (by simp)).kept hB.2 (by simp; omega)
      have hV6 := (hV.kept hg5 (by simp)).kept hB.2 (by simp; omega)
      have HG6 := hide ((HG4.out.then (kp_n hg5)).then (kp_of hB.2 hM5.gB))
      have HM6 := hide hB.1
      clear v0 v1 v2 k13 f13 hB hV hb4 hM4 hM5
      generalize w5.setCell ⟨g, 13, none⟩ (.bool false) = W6 at *
      have hM6 := HM6.out
      have k13 := hM6.tb.c13
      go_upto_region 6 with fail
      have v0 := hV6.c0
      have v1 := hV6.c1
      have v2 := hV6.c2
      obtain ⟨b0, b1, b2, b3, b4, b5, b6⟩ := hb6.cs
      dsimp only at b0 b1 b2 b3 b4 b5 b6
      have t1 := hM6.tb.c1
      obtain ⟨ar0, ar1, ar2, rf⟩ := xg_cells hM6 h6 a la
      go_region
      go_wp2
      go_end0
      exact xset_done hM6 HG6.out h6 a la y
    | false =>
      rw [hc] at his
      have e := HR.out
      rw [hc, if_neg (by simp)] at e
      subst e
      clear hc HR
      go_upto_region 5 with (go_at_call 20; refine his.mono ?_; rintro e w5 ⟨rfl, hg5⟩; have hM5 := hM4.keptN hg5; have k13 := hM5.tb.c13; have f13 := hM5.tb.fz 13)
      have hB := hM5.sBd true
      have HG6 := hide ((HG4.out.then (kp_n hg5)).then (kp_of hB.2 hM5.gB))
      have HM6 := hide hB.1
      clear v0 v1 v2 k13 f13 hB hV hb4 hM4 hM5
      generalize w5.setCell ⟨g, 13, none⟩ (.bool true) = W6 at *
      have k13 := HM6.out.tb.c13
      go_wp2
      go_end0
      exact ⟨rfl, ⟨_, _, _, _, _, _, _, _, HM6.out⟩, HG6.out⟩

end Go.Proofs.YtpoahegccjgnjaaGreatDoor

namespace Go.Proofs.YtpoahegccjgnjaaGreatDoor
open Go Go.RowKit
set_option linter.unusedVariables false

set_option maxRecDepth 100000 in
set_option maxHeartbeats 1000000 in
theorem xdo_load (B : Bd) (g : Nat) (tv rv pv ov kv : Value) (S : Ms) (x : V) (a : Nat) (b : Nat) (la : a < 6) (lb : b < 6) (c : Int) (w : World) (hM : Xm B w g tv S 0 zV false false rv pv ov kv) (h6 : S.rg.length = 6) (hp0 : 0 ≤ S.pc) (hp1 : S.pc ≤ 1000) (hp2 : S.pc ≤ 500) (t : List Wr) (hT : ∀ W, Kp (Bk B) w W → Rw Wr.cells 7 W tv t) :
    Calls Tryz.prog 14 #[.pointer (some ⟨g, 0, none⟩), (⟨11, (a : Int), (b : Int), c, x⟩ : In).val] w fun e w' => XP B w g tv (if okC (((S.to (S.pc + 1)).look (lookT t) ((S.to (S.pc + 1)).at (b : Int))).getD (nV 0)) = true then Rs.go ((S.to (S.pc + 1)).set (a : Int) (((S.to (S.pc + 1)).look (lookT t) ((S.to (S.pc + 1)).at (b : Int))).getD (nV 0))) else Rs.bad) e w' := by
  obtain ⟨r, cap, rfl, hBr, hr, hrg⟩ := xt_cells hM h6
  have hgb := World.grownBy_alloc w (.cells #[.int .i64 11, .int .i64 (a : Int), .int .i64 (b : Int), .int .i64 c, .int .i64 x.k, .int .i64 x.n, .string x.s] 44) none
  have hb : Ib (w.alloc (.cells #[.int .i64 11, .int .i64 (a : Int), .int .i64 (b : Int), .int .i64 c, .int .i64 x.k, .int .i64 x.n, .string x.s] 44)) w.heap.size ⟨11, (a : Int), (b : Int), c, x⟩ := Ib.new w ⟨11, (a : Int), (b : Int), c, x⟩
  have hM1 := hM.keptN hgb
  have la' : (a : Int) < 6 := by omega
  have lb' : (b : Int) < 6 := by omega
  obtain ⟨R, HR⟩ : ∃ R : Rs, Hid ((if okC (((S.to (S.pc + 1)).look (lookT t) ((S.to (S.pc + 1)).at (b : Int))).getD (nV 0)) = true then Rs.go ((S.to (S.pc + 1)).set (a : Int) (((S.to (S.pc + 1)).look (lookT t) ((S.to (S.pc + 1)).at (b : Int))).getD (nV 0))) else Rs.bad) = R) := ⟨_, rfl⟩
  rw [HR.out]
  unfold In.val
  dsimp only
  go_enter Tryz.func14, Tryz.ntmps14
  go_upto_region 1 with fail
  have HG1 := hide (kp_n (B := B) hgb)
  generalize w.alloc (.cells #[.int .i64 11, .int .i64 (a : Int), .int .i64 (b : Int), .int .i64 c, .int .i64 x.k, .int .i64 x.n, .string x.s] 44) = W at *
  have hqg : g < w.heap.size := hM.lt
  generalize hq : w.heap.size = q at *
  have t0 := hM1.tb.c0
  have tf := hM1.tb.fz 0
  have hM2 := hM1.to (S.pc + 1)
  have hb2 := hb.kept hM2.2 (by simp; omega)
  have HG2 := hide (HG1.out.then (kp_of hM2.2 hM1.gB))
  obtain ⟨b0, b1, b2, b3, b4, b5, b6⟩ := hb.cs
  dsimp only at b0 b1 b2 b3 b4 b5 b6
  go_upto_region 2 with fail
  have HM2 := hide hM2.1
  clear t0 tf hM1 hb hM2 b0 b1 b2 b3 b4 b5 b6
  generalize W.setCell ⟨g, 0, none⟩ (.int .i64 (S.pc + 1)) = W2 at *
  obtain ⟨b0, b1, b2, b3, b4, b5, b6⟩ := hb2.cs
  dsimp only at b0 b1 b2 b3 b4 b5 b6
  have hM2 := HM2.out
  have t1 := hM2.tb.c1
  go_upto_region 3 with fail
  have hcall := xeff_load B g tv (.slice (some ⟨r, 0, none⟩) 6 cap) pv ov kv (S.to (S.pc + 1)) x a b la lb c W2 hM2 h6 (by show 0 ≤ S.pc + 1; omega) (by show S.pc + 1 ≤ 1000; omega) t (hT _ HG2.out)
  unfold In.val at hcall
  dsimp only at hcall
  go_wp2_with (go_at_call 47; refine hcall.mono ?_; rintro e w3 ⟨rfl, hR, hk⟩)
  go_end0
  exact ⟨rfl, by rw [← HR.out]; exact hR, HG2.out.then hk⟩

end Go.Proofs.YtpoahegccjgnjaaGreatDoor

namespace Go.Proofs.YtpoahegccjgnjaaGreatDoor
open Go Go.RowKit
set_option linter.unusedVariables false

set_option maxRecDepth 100000 in
set_option maxHeartbeats 1000000 in
theorem xdo_any (B : Bd) (g : Nat) (tv rv pv ov kv : Value) (S : Ms) (t : List Wr) (l : List In) (x : In) (pc : Int) (w : World) (hM : Xm B w g tv S 0 zV false false rv pv ov kv) (hS : S.okk) (ho : Opd l x pc) (hp0 : 0 ≤ S.pc) (hp2 : S.pc ≤ 500) (hT : ∀ W, Kp (Bk B) w W → Rw Wr.cells 7 W tv t) :
    Calls Tryz.prog 14 #[.pointer (some ⟨g, 0, none⟩), x.val] w fun e w' => XP B w g tv (doN (lookT t) x (S.to (S.pc + 1)) x.op.toNat) e w' := by
  have h6 := hS.r6
  have hp1 : S.pc ≤ 1000 := by omega
  have o1 := ho.o1
  have o2 := ho.o2
  obtain ⟨op, a, b, c, x⟩ := x
  dsimp only at o1 o2 ⊢
  rcases op_cases op o1 o2 with rfl | rfl | rfl | rfl | rfl | rfl | rfl | rfl | rfl | rfl | rfl | rfl | rfl | rfl | rfl | rfl | rfl | rfl | rfl
  · obtain ⟨a, rfl⟩ := nat_of (ho.a (by dsimp only; omega)).1
    have la : a < 6 := by have := (ho.a (by dsimp only; omega)).2; dsimp only at this; omega
    exact xdo_const B g tv rv pv ov kv S x a la b c w hM h6 hp0 hp1
  · obtain ⟨a, rfl⟩ := nat_of (ho.a (by dsimp only; omega)).1
    obtain ⟨b, rfl⟩ := nat_of (ho.b (by dsimp only; omega)).1
    have la : a < 6 := by have := (ho.a (by dsimp only; omega)).2; dsimp only at this; omega
    have lb : b < 6 := by have := (ho.b (by dsimp only; omega)).2; dsimp only at this; omega
    exact xdo_move B g tv rv pv ov kv S x a b la lb c w hM h6 hp0 hp1
  · obtain ⟨a, rfl⟩ := nat_of (ho.a (by dsimp only; omega)).1
    obtain ⟨b, rfl⟩ := nat_of (ho.b (by dsimp only; omega)).1
    obtain ⟨c, rfl⟩ := nat_of (ho.c (by dsimp only; omega)).1
    have la : a < 6 := by have := (ho.a (by dsimp only; omega)).2; dsimp only at this; omega
    have lb : b < 6 := by have := (ho.b (by dsimp only; omega)).2; dsimp only at this; omega
    have lc : c < 6 := by have := (ho.c (by dsimp only; omega)).2; dsimp only at this; omega
    exact xdo_add B g tv rv pv ov kv S x a b c la lb lc w hM h6 hp0 hp1 hp2 (hS.at _ (by omega) (by omega)).1 (hS.at _ (by omega) (by omega)).1
  · obtain ⟨a, rfl⟩ := nat_of (ho.a (by dsimp only; omega)).1
    obtain ⟨b, rfl⟩ := nat_of (ho.b (by dsimp only; omega)).1
    obtain ⟨c, rfl⟩ := nat_of (ho.c (by dsimp only; omega)).1
    have la : a < 6 := by have := (ho.a (by dsimp only; omega)).2; dsimp only at this; omega
    have lb : b < 6 := by have := (ho.b (by dsimp only; omega)).2; dsimp only at this; omega
    have lc : c < 6 := by have := (ho.c (by dsimp only; omega)).2; dsimp only at this; omega
    exact xdo_sub B g tv rv pv ov kv S x a b c la lb lc w hM h6 hp0 hp1 hp2 (hS.at _ (by omega) (by omega)).1 (hS.at _ (by omega) (by omega)).1
  · obtain ⟨a, rfl⟩ := nat_of (ho.a (by dsimp only; omega)).1
    obtain ⟨b, rfl⟩ := nat_of (ho.b (by dsimp only; omega)).1
    obtain ⟨c, rfl⟩ := nat_of (ho.c (by dsimp only; omega)).1
    have la : a < 6 := by have := (ho.a (by dsimp only; omega)).2; dsimp only at this; omega
    have lb : b < 6 := by have := (ho.b (by dsimp only; omega)).2; dsimp only at this; omega
    have lc : c < 6 := by have := (ho.c (by dsimp only; omega)).2; dsimp only at this; omega
    exact xdo_mul B g tv rv pv ov kv S x a b c la lb lc w hM h6 hp0 hp1 hp2 (hS.at _ (by omega) (by omega)).1 (hS.at _ (by omega) (by omega)).1
  · obtain ⟨a, rfl⟩ := nat_of (ho.a (by dsimp only; omega)).1
    obtain ⟨b, rfl⟩ := nat_of (ho.b (by dsimp only; omega)).1
    obtain ⟨c, rfl⟩ := nat_of (ho.c (by dsimp only; omega)).1
    have la : a < 6 := by have := (ho.a (by dsimp only; omega)).2; dsimp only at this; omega
    have lb : b < 6 := by have := (ho.b (by dsimp only; omega)).2; dsimp only at this; omega
    have lc : c < 6 := by have := (ho.c (by dsimp only; omega)).2; dsimp only at this; omega
    exact xdo_cat B g tv rv pv ov kv S x a b c la lb lc w hM h6 hp0 hp1 hp2 (okC_size (hS.at _ (by omega) (by omega)).2) (okC_size (hS.at _ (by omega) (by omega)).2)
  · obtain ⟨a, rfl⟩ := nat_of (ho.a (by dsimp only; omega)).1
    obtain ⟨b, rfl⟩ := nat_of (ho.b (by dsimp only; omega)).1
    obtain ⟨c, rfl⟩ := nat_of (ho.c (by dsimp only; omega)).1
    have la : a < 6 := by have := (ho.a (by dsimp only; omega)).2; dsimp only at this; omega
    have lb : b < 6 := by have := (ho.b (by dsimp only; omega)).2; dsimp only at this; omega
    have lc : c < 6 := by have := (ho.c (by dsimp only; omega)).2; dsimp only at this; omega
    exact xdo_less B g tv rv pv ov kv S x a b c la lb lc w hM h6 hp0 hp1 (hS.at _ (by omega) (by omega)).1 (hS.at _ (by omega) (by omega)).1
  · obtain ⟨a, rfl⟩ := nat_of (ho.a (by dsimp only; omega)).1
    obtain ⟨b, rfl⟩ := nat_of (ho.b (by dsimp only; omega)).1
    obtain ⟨c, rfl⟩ := nat_of (ho.c (by dsimp only; omega)).1
    have la : a < 6 := by have := (ho.a (by dsimp only; omega)).2; dsimp only at this; omega
    have lb : b < 6 := by have := (ho.b (by dsimp only; omega)).2; dsimp only at this; omega
    have lc : c < 6 := by have := (ho.c (by dsimp only; omega)).2; dsimp only at this; omega
    exact xdo_same B g tv rv pv ov kv S x a b c la lb lc w hM h6 hp0 hp1
  · exact xdo_jump B g tv rv pv ov kv S x a b c w hM h6 hp0 hp1
  · obtain ⟨b, rfl⟩ := nat_of (ho.b (by dsimp only; omega)).1
    have lb : b < 6 := by have := (ho.b (by dsimp only; omega)).2; dsimp only at this; omega
    exact xdo_unless B g tv rv pv ov kv S x b lb a c w hM h6 hp0 hp1
  · obtain ⟨a, rfl⟩ := nat_of (ho.a (by dsimp only; omega)).1
    obtain ⟨b, rfl⟩ := nat_of (ho.b (by dsimp only; omega)).1
    have la : a < 6 := by have := (ho.a (by dsimp only; omega)).2; dsimp only at this; omega
    have lb : b < 6 := by have := (ho.b (by dsimp only; omega)).2; dsimp only at this; omega
    exact xdo_load B g tv rv pv ov kv S x a b la lb c w hM h6 hp0 hp1 hp2 t hT
  · obtain ⟨a, rfl⟩ := nat_of (ho.a (by dsimp only; omega)).1
    obtain ⟨b, rfl⟩ := nat_of (ho.b (by dsimp only; omega)).1
    have la : a < 6 := by have := (ho.a (by dsimp only; omega)).2; dsimp only at this; omega
    have lb : b < 6 := by have := (ho.b (by dsimp only; omega)).2; dsimp only at this; omega
    exact xdo_store B g tv rv pv ov kv S x a b la lb c w hM h6 hp0 hp1 hp2 (Nat.le_trans hS.pl (by decide))
  · obtain ⟨a, rfl⟩ := nat_of (ho.a (by dsimp only; omega)).1
    have la : a < 6 := by have := (ho.a (by dsimp only; omega)).2; dsimp only at this; omega
    exact xdo_drop B g tv rv pv ov kv S x a la b c w hM h6 hp0 hp1 hp2 (Nat.le_trans hS.pl (by decide))
  · obtain ⟨a, rfl⟩ := nat_of (ho.a (by dsimp only; omega)).1
    have la : a < 6 := by have := (ho.a (by dsimp only; omega)).2; dsimp only at this; omega
    exact xdo_emit B g tv rv pv ov kv S x a la b c w hM h6 hp0 hp1 hp2 (Nat.le_trans hS.ol (by decide))
  · obtain ⟨a, rfl⟩ := nat_of (ho.a (by dsimp only; omega)).1
    have la : a < 6 := by have := (ho.a (by dsimp only; omega)).2; dsimp only at this; omega
    exact xdo_sleep B g tv rv pv ov kv S x a la b c w hM h6 hp0 hp1 hp2
  · obtain ⟨b, rfl⟩ := nat_of (ho.b (by dsimp only; omega)).1
    obtain ⟨c, rfl⟩ := nat_of (ho.c (by dsimp only; omega)).1
    have lb : b < 6 := by have := (ho.b (by dsimp only; omega)).2; dsimp only at this; omega
    have lc : c < 6 := by have := (ho.c (by dsimp only; omega)).2; dsimp only at this; omega
    exact xdo_child B g tv rv pv ov kv S x b c lb lc a w hM h6 hp0 hp1 hp2 (Nat.le_trans hS.kl (by decide))
  · exact xdo_goes B g tv rv pv ov kv S x a b c w hM h6 hp0 hp1 hp2
  · obtain ⟨a, rfl⟩ := nat_of (ho.a (by dsimp only; omega)).1
    have la : a < 6 := by have := (ho.a (by dsimp only; omega)).2; dsimp only at this; omega
    exact xdo_done B g tv rv pv ov kv S x a la b c w hM h6 hp0 hp1 hp2
  · obtain ⟨a, rfl⟩ := nat_of (ho.a (by dsimp only; omega)).1
    have la : a < 6 := by have := (ho.a (by dsimp only; omega)).2; dsimp only at this; omega
    exact xdo_fail B g tv rv pv ov kv S x a la b c w hM h6 hp0 hp1 hp2

end Go.Proofs.YtpoahegccjgnjaaGreatDoor

namespace Go.Proofs.YtpoahegccjgnjaaGreatDoor
open Go Go.RowKit
set_option linter.unusedVariables false
/-- What Run makes of what an instruction has left, with n more to do. -/
def eOf (T : V → Option V) (l : List In) (n : Nat) (E : Ef) : Rs → Prop
  | none => E = .none 3
  | some (S, none) => S.ok l ∧ runM T l n S = E
  | some (S, some (en, v)) => E = S.ends en v ∧ (en = 0 → v = zV)
theorem eOf_step {T : V → Option V} {l : List In} {n : Nat} {E : Ef} {S : Ms} {R : Rs} (h : runM T l (n + 1) S = E) (hR : doS T l S = R) (hok : R.okR l) (hz : ∀ S' en v, R = some (S', some (en, v)) → en = 0 → v = zV) : eOf T l n E R := by
  rcases R with _ | ⟨S1, _ | ⟨en, y⟩⟩
  · exact (h.symm.trans (runM_bad hR))
  · exact ⟨hok, by rw [← h]; exact (runM_go hR).symm⟩
  · exact ⟨h.symm.trans (runM_fin hR), hz S1 en y rfl⟩
theorem xefR_end {B rb : Nat} {w w' : World} {rv pv ov kv fr : Value} {S : Ms} {en fp : Int} {v : V} (h : OwR V.cells 3 31 w B rv S.rg ∧ OwR Wr.cells 7 62 w B pv S.pu ∧ OwR V.cells 3 31 w B ov S.ou ∧ OwR Sp.cells 7 64 w B kv S.ki) (hb : rb < B) (hg : w.grownBy w' (some rb)) (hend : (en = 0 ∧ fp = S.pc ∧ fr = rv) ∨ (en ≠ 0 ∧ fp = 0 ∧ fr = .slice none 0 0)) (hz : en = 0 → v = zV) :
    EfR w' (.agg #[pv, ov, kv, .int .i64 S.sl, .int .i64 en, .int .i64 v.k, .int .i64 v.n, .string v.s, .int .i64 fp, fr]) (S.ends en v) := by
  have ne : ∀ {u : Value}, (∀ k, u.ownBlock = some k → B ≤ k) → (u.ownBlock = none ∨ u.ownBlock ≠ some rb) := fun hu => ne_of fun k e => by have := hu k e; omega
  have a := (h.1.kept hg (ne fun k e => (h.1.lt k e).1)).rw clV
  have b := (h.2.1.kept hg (ne fun k e => (h.2.1.lt k e).1)).rw clW
  have c := (h.2.2.1.kept hg (ne fun k e => (h.2.2.1.lt k e).1)).rw clV
  have d := (h.2.2.2.kept hg (ne fun k e => (h.2.2.2.lt k e).1)).rw clS
  unfold Ms.ends
  rcases hend with ⟨rfl, rfl, rfl⟩ | ⟨hne, rfl, rfl⟩
  · rw [hz rfl, if_pos rfl]
    exact ⟨_, _, _, _, rfl, b, c, d, a⟩
  · rw [if_neg hne]
    exact ⟨_, _, _, _, rfl, b, c, d, Rw.nil _ _ _⟩
set_option maxRecDepth 100000 in
set_option maxHeartbeats 8000000 in
theorem xrun_any (v rv tv : Value) (l : List In) (pc : Int) (rg : List V) (t : List Wr) (w : World) (hI : Ins w v l) (hwf : ∀ x ∈ l, x.wf) (hr : Rw V.cells 3 w rv rg) (hrw : ∀ x ∈ rg, x.wf) (hT : Twf (lookT t)) (hRt : Rw Wr.cells 7 w tv t) :
    Calls Tryz.prog 6 #[v, .agg #[.int .i64 pc, rv], tv] w fun e w' => RunP e w' (runE (lookT t) l pc rg) (runX l pc rg) ∧ w.grownBy w' none := by
  obtain ⟨a', c', rfl, h1, h2, h3⟩ := hI
  have hI : Ins w (.slice a' l.length c') l := ⟨a', c', rfl, h1, h2, h3⟩
  have HI3 := hide h3
  have HI := hide hI
  clear h1 h2 h3 hI
  obtain ⟨a, c, rfl, g1, g2, g3⟩ := hr
  have hr : Rw V.cells 3 w (.slice a rg.length c) rg := ⟨a, c, rfl, g1, g2, g3⟩
  have HRg := hide hr
  clear g1 g2 g3 hr
  obtain ⟨ta, tm, tc, rfl⟩ : ∃ x y z, tv = .slice x y z := by
    obtain ⟨x, y, e, _⟩ := hRt
    exact ⟨x, _, y, e⟩
  have HRt := hide hRt
  clear hRt
  obtain ⟨E, HE0⟩ : ∃ E, Hid (runE (lookT t) l pc rg = E) := ⟨_, rfl⟩
  obtain ⟨X, HX0⟩ : ∃ X, Hid (runX l pc rg = X) := ⟨_, rfl⟩
  rw [HE0.out, HX0.out]
  have hga := World.grownBy_alloc w (.cells #[.int .i64 pc, .slice a rg.length c] 25) none
  have hs1 : (w.alloc (.cells #[.int .i64 pc, .slice a rg.length c] 25)).heap.size = w.heap.size + 1 := World.size_alloc _ _
  have hgb := World.grownBy_alloc (w.alloc (.cells #[.int .i64 pc, .slice a rg.length c] 25)) (.cells #[.slice none 0 0, .slice none 0 0, .slice none 0 0, .int .i64 0, .int .i64 0, .int .i64 0, .int .i64 0, .string ⟨#[]⟩, .int .i64 0, .slice none 0 0] 33) none
  have hEb : Eb (World.alloc (World.alloc w (.cells #[.int .i64 pc, .slice a rg.length c] 25)) (.cells #[.slice none 0 0, .slice none 0 0, .slice none 0 0, .int .i64 0, .int .i64 0, .int .i64 0, .int .i64 0, .string ⟨#[]⟩, .int .i64 0, .slice none 0 0] 33)) (w.heap.size + 1) (.slice none 0 0) (.slice none 0 0) (.slice none 0 0) 0 0 ⟨0, 0, ⟨#[]⟩⟩ 0 (.slice none 0 0) := by
    have := heap_alloc_new (w.alloc (.cells #[.int .i64 pc, .slice a rg.length c] 25)) (.cells #[.slice none 0 0, .slice none 0 0, .slice none 0 0, .int .i64 0, .int .i64 0, .int .i64 0, .int .i64 0, .string ⟨#[]⟩, .int .i64 0, .slice none 0 0] 33)
    rw [hs1] at this
    exact this
  have f0 : (w.alloc (.cells #[.int .i64 pc, .slice a rg.length c] 25)).cell? ⟨w.heap.size, 0, none⟩ = some (.int .i64 pc) := by simp
  have f1 : (w.alloc (.cells #[.int .i64 pc, .slice a rg.length c] 25)).cell? ⟨w.heap.size, 1, none⟩ = some (.slice a rg.length c) := by simp
  have f0 := cell_g f0 hgb
  have f1 := cell_g f1 hgb
  have hg02 := grown_up hga hgb
  have hright := rright16_any _ _ l pc rg (World.alloc (World.alloc w (.cells #[.int .i64 pc, .slice a rg.length c] 25)) (.cells #[.slice none 0 0, .slice none 0 0, .slice none 0 0, .int .i64 0, .int .i64 0, .int .i64 0, .int .i64 0, .string ⟨#[]⟩, .int .i64 0, .slice none 0 0] 33)) (HI.out.keptN hg02) hwf (HRg.out.keptN hg02) hrw
  cases hR : rightF l pc rg with
  | false =>
    rw [hR] at hright
    obtain rfl : E = .none 0 := by rw [← HE0.out]; unfold runE; rw [if_neg (by rw [hR]; simp)]
    obtain rfl : X = 4 := by rw [← HX0.out]; unfold runX; rw [if_neg (by rw [hR]; simp)]
    go_enter Tryz.func6, Tryz.ntmps6
    go_wp2_with (go_at_call 9; refine hright.mono ?_; rintro e w3 ⟨rfl, hg3⟩; have hE3 := hEb.kept hg3 (by simp); obtain ⟨y0, y1, y2, y3, y4, y5, y6, y7, y8, y9⟩ := hE3.cs; have yf := hE3.fz; have hP := hE3.set (.slice none 0 0) (.slice none 0 0) (.slice none 0 0) 0 0 ⟨0, 0, ⟨#[]⟩⟩ 0 (.slice none 0 0); dsimp only at hP y5 y6 y7)
    refine bodyPost_ret (results_eb rfl _ _ rfl rfl hP.1) rfl ?_
    exact ⟨⟨_, rfl, efR_none _ 0⟩, grown_new (grown_up hg02 hg3) hP.2 (fun j e => by cases e; omega)⟩
  | true =>
    rw [hR] at hright
    have HBE := hide (beg_ok hR hrw)
    have HE1 : Hid (runM (lookT t) l 200 (begM pc rg) = E) := by rw [← HE0.out]; show _ = _; unfold runE; rw [if_pos hR]
    obtain rfl : X = 0 := by rw [← HX0.out]; unfold runX; rw [if_pos hR]
    have H6 : Hid (rg.length = 6) := HBE.out.2.k.r6
    clear hR
    go_enter Tryz.func6, Tryz.ntmps6
    go_upto_region 3 with (go_at_call 9; refine hright.mono ?_; rintro e w3 ⟨rfl, hg3⟩)
    have hgw3 := grown_up hg02 hg3
    have hE3 := hEb.kept hg3 (by simp)
    have hrb3 : w.heap.size + 1 < w3.heap.size := hE3.lt
    have f0 := cell_g f0 hg3
    have f1 := cell_g f1 hg3
    have dr := grown_dr w3
    obtain ⟨i0, hi, hz0, hz1, hz2⟩ := info_parts infoV3
    have hin := (HRg.out.keptN (grown_up hgw3 dr)).src clV (by omega) 23 31 Tryz.underlying23
    obtain ⟨v2, w4, hq2, hO4, hg4, -⟩ := run_append_own_row (P := Tryz.prog) w3.drew w3.heap.size 23 23 23 31 i0 _ 3 32 Tryz.underlying23 hi hz0 rfl hz1 hz2 (.slice none 0 0) 0 [] (World.ownsRow_nil _ _ _ _) _ _ _ hin (by have := H6.out; omega) (by have := H6.out; omega) (by have := H6.out; unfold maxLen; omega) (Nat.le_refl _)
    have hO4' : OwR V.cells 3 31 w4 w3.heap.size v2 rg := by
      unfold OwR
      rw [Nat.zero_add] at hO4
      exact hO4
    have hG4 : w3.grownBy w4 none := grown_up dr hg4
    have f0' := cell_g f0 hG4
    have f1' := cell_g f1 hG4
    clear hO4 hin hright hEb hg02 hga hgb hs1 hg3 hi hz0 hz1 hz2
    rcases hO4'.shape with ⟨_, h0⟩ | ⟨r, cap, rfl, hr3, hr4⟩
    · have := H6.out
      rw [h0] at this
      cases this
    have ka4 := World.grownBy_alloc w4 (.cells #[.int .i64 pc, .slice (some ⟨r, 0, none⟩) rg.length cap, .slice none 0 0, .slice none 0 0, .slice none 0 0, .int .i64 0, .int .i64 0, .int .i64 0, .int .i64 0, .string ⟨#[]⟩, .int .i64 0, .slice none 0 0, .bool false, .bool false, .slice ta tm tc] 57) none
    have hXb : Xb (w4.alloc (.cells #[.int .i64 pc, .slice (some ⟨r, 0, none⟩) rg.length cap, .slice none 0 0, .slice none 0 0, .slice none 0 0, .int .i64 0, .int .i64 0, .int .i64 0, .int .i64 0, .string ⟨#[]⟩, .int .i64 0, .slice none 0 0, .bool false, .bool false, .slice ta tm tc] 57)) w4.heap.size (.slice ta tm tc) pc (.slice (some ⟨r, 0, none⟩) rg.length cap) (.slice none 0 0) (.slice none 0 0) (.slice none 0 0) 0 0 zV 0 (.slice none 0 0) false false := heap_alloc_new _ _
    have HXB := hide hXb
    have HKA := hide ka4
    have HO4 := hide hO4'
    clear hXb ka4 hO4'
    go_cut [8] from 15 to 22 (fun t8 W5 => ∃ g, t8 = .pointer (some ⟨g, 0, none⟩) ∧ Xb W5 g (.slice ta tm tc) pc (.slice (some ⟨r, 0, none⟩) rg.length cap) (.slice none 0 0) (.slice none 0 0) (.slice none 0 0) 0 0 zV 0 (.slice none 0 0) false false ∧ OwR V.cells 3 31 W5 w3.heap.size (.slice (some ⟨r, 0, none⟩) rg.length cap) rg ∧ w3.heap.size ≤ g ∧ r ≠ g ∧ w3.grownBy W5 none)
    case first =>
      go_region_law (first
        | (refine hstep_app 19 (by rfl) (by rfl) (.const (.slice none 0 0)) (.tmp 18) 23 23 23 (by rfl) (by rfl) _ _ (by rfl) (by rfl) hq2 ?_)
        | fail)
      all_goals go_wp2
      all_goals go_meet
      all_goals exact ⟨_, rfl, HXB.out, HO4.out.keptN HKA.out, hG4.size, by omega, grown_up hG4 HKA.out⟩
    case rest =>
      obtain ⟨g, rfl, hX5, hO5, hg5, hrg, hG5⟩ := hcut
      clear HXB HKA HO4 hG4 hq2 f0' f1' f0 f1
      obtain ⟨B, hB⟩ : ∃ B : Bd, B = (w3.heap.size, 0) := ⟨_, rfl⟩
      have hB1 : B.1 = w3.heap.size := by rw [hB]
      have hB2 : B.2 = 0 := by rw [hB]
      have nrb : ¬ Bk B (w.heap.size + 1) := fun h => by have := h.1; omega
      have hap : Ap g (.slice (some ⟨r, 0, none⟩) rg.length cap) (.slice none 0 0) (.slice none 0 0) (.slice none 0 0) := by
        refine ⟨fun k hk => ?_, fun k hk => ?_, fun k hk => ?_, fun k hk => ?_⟩
        · have : r = k := Option.some.inj hk
          exact ⟨by omega, by simp [Value.ownBlock], by simp [Value.ownBlock], by simp [Value.ownBlock]⟩
        all_goals exact absurd hk (by simp [Value.ownBlock])
      have hnd : ∀ k, ((Value.slice (some ⟨r, 0, none⟩) rg.length cap).ownBlock = some k ∨ (Value.slice none 0 0).ownBlock = some k ∨ (Value.slice none 0 0).ownBlock = some k ∨ (Value.slice none 0 0).ownBlock = some k) → k ≠ B.2 := by
        intro k hk
        rcases hk with hk | hk | hk | hk
        · have : r = k := Option.some.inj hk
          omega
        all_goals exact absurd hk (by simp [Value.ownBlock])
      have hM5 : Xm B wc g (.slice ta tm tc) (begM pc rg) 0 zV false false (.slice (some ⟨r, 0, none⟩) rg.length cap) (.slice none 0 0) (.slice none 0 0) (.slice none 0 0) :=
        ⟨hX5, ⟨by omega, by omega⟩, by have := hX5.lt; omega, hnd, by rw [hB1]; exact hO5, OwR.nil, OwR.nil, OwR.nil, hap⟩
      have hK35 : Kp (Bk B) w3 wc := kp_n hG5
      have HEb : Hid (Eb wc (w.heap.size + 1) (.slice none 0 0) (.slice none 0 0) (.slice none 0 0) 0 0 ⟨0, 0, ⟨#[]⟩⟩ 0 (.slice none 0 0)) := hE3.kept hG5 (by simp)
      have hT3 := HRt.out.keptN hgw3
      have hgw5 := grown_up hgw3 hG5
      have HM5 := hide hM5
      clear hM5 hX5 hO5 hE3 hap hnd
      go_wp2_with fail
      go_loopw [9] (fun x wr => ∃ (n : Nat) (R : Rs), n ≤ 200 ∧ x = .int .i64 n ∧ XR B g (.slice ta tm tc) wr R ∧ Hid (eOf (lookT t) l (200 - n) E R) ∧ Hid (Kp (Bk B) wc wr)) (fun x _ => 200 - (intOf x).toNat)
      case atStart => exact ⟨0, some (begM pc rg, none), by omega, rfl, ⟨_, _, _, _, HM5.out⟩, ⟨HBE.out.2, HE1.out⟩, Kp.refl _ _⟩
      case round =>
        obtain ⟨n, R, hn, rfl, hR, HE, HK⟩ := hrel
        rcases R with _ | ⟨S, _ | ⟨en, y⟩⟩
        · obtain ⟨S1, en1, v1, ed, rv1, pv1, ov1, kv1, hM⟩ := hR
          obtain rfl : E = .none 3 := HE.out
          have t12 := hM.tb.c12
          have t13 := hM.tb.c13
          clear hM
          by_cases hlt : n < 200
          · have hni : (n : Int) < 200 := by omega
            cases ed
            all_goals (
              have hE9 := HEb.out.kp HK.out nrb
              obtain ⟨y0, y1, y2, y3, y4, y5, y6, y7, y8, y9⟩ := hE9.cs
              have yf := hE9.fz
              have hP := hE9.set (.slice none 0 0) (.slice none 0 0) (.slice none 0 0) 0 3 ⟨0, 0, ⟨#[]⟩⟩ 0 (.slice none 0 0)
              dsimp only at hP y5 y6 y7
              have HKK := hide (grown_up hgw3 (kp_from3 hB (hK35.then HK.out)))
              go_wp2
              refine bodyPost_ret (results_eb rfl _ _ rfl rfl hP.1) rfl ?_
              exact ⟨⟨_, rfl, efR_none _ 3⟩, grown_new HKK.out hP.2 (fun j e => by cases e; omega)⟩)
          · have hni : ¬ (n : Int) < 200 := by omega
            cases ed
            all_goals (
              have hE9 := HEb.out.kp HK.out nrb
              obtain ⟨y0, y1, y2, y3, y4, y5, y6, y7, y8, y9⟩ := hE9.cs
              have yf := hE9.fz
              have hP := hE9.set (.slice none 0 0) (.slice none 0 0) (.slice none 0 0) 0 3 ⟨0, 0, ⟨#[]⟩⟩ 0 (.slice none 0 0)
              dsimp only at hP y5 y6 y7
              have HKK := hide (grown_up hgw3 (kp_from3 hB (hK35.then HK.out)))
              go_wp2
              refine bodyPost_ret (results_eb rfl _ _ rfl rfl hP.1) rfl ?_
              exact ⟨⟨_, rfl, efR_none _ 3⟩, grown_new HKK.out hP.2 (fun j e => by cases e; omega)⟩)
        · obtain ⟨rv1, pv1, ov1, kv1, hM⟩ := hR
          obtain ⟨hSok, hRun⟩ := HE.out
          have t12 := hM.tb.c12
          have t13 := hM.tb.c13
          by_cases hlt : n < 200
          · have hni : (n : Int) < 200 := by omega
            obtain ⟨p, hp⟩ : ∃ p : Nat, S.pc = (p : Int) := nat_of hSok.p0
            have hpl : p < l.length := by have := hSok.p1; omega
            have hpi : (p : Int) < (l.length : Int) := by omega
            have t0 : wr.cell? ⟨g, 0, none⟩ = some (.int .i64 (p : Int)) := by rw [← hp]; exact hM.tb.c0
            obtain ⟨b, off, rfl, hb, hcb⟩ := HI3.out p hpl
            have hcs : ∀ k u, (In.cells l[p])[k]? = some u → wr.cell? ⟨b, off + p * 7 + k, none⟩ = some u := fun k u hu => HK.out.cell (cell_g (hcb k u hu) hgw5) (fun h => by have := h.1; have := hgw3.size; omega)
            have Hx : Hid (l.getD S.pc.toNat dI = l[p]) := by rw [hp, Int.toNat_natCast]; exact getD_lt l p dI hpl
            have HO := hide (opd_of HBE.out.1 hwf S.pc hSok.p0 hSok.p1)
            rw [Hx.out] at HO
            have i0 : wr.cell? ⟨b, off + p * 7, none⟩ = some (.int .i64 l[p].op) := hcs 0 _ rfl
            have i1 := hcs 1 _ rfl
            have i2 := hcs 2 _ rfl
            have i3 := hcs 3 _ rfl
            have i4 := hcs 4 _ rfl
            have i5 := hcs 5 _ rfl
            have i6 := hcs 6 _ rfl
            obtain ⟨R, HR⟩ : ∃ R, Hid (doS (lookT t) l S = R) := ⟨_, rfl⟩
            have HOK : Hid (R.okR l) := by rw [← HR.out]; exact doS_ok (lookT t) hT l HBE.out.1 hwf S hSok
            have HR0 : Hid (doN (lookT t) l[p] (S.to (S.pc + 1)) l[p].op.toNat = R) := by
              rw [← HR.out]
              show _ = doS (lookT t) l S
              unfold doS
              rw [Hx.out]
            have hl5 : (l.length : Int) ≤ 500 := by have := HBE.out.1.l1; omega
            have HDO := hide (xdo_any B g (.slice ta tm tc) rv1 pv1 ov1 kv1 S t l l[p] S.pc wr hM hSok.k HO.out hSok.p0 (by have := hSok.p1; omega) (fun W9 hk9 => hT3.kpw ((hK35.then HK.out).then hk9) (by rw [hB1]; exact Nat.le_refl _)))
            have HE2 : Hid (eOf (lookT t) l (200 - (n + 1)) E R) := eOf_step (by rw [show 200 - (n + 1) + 1 = 200 - n by omega]; exact hRun) HR.out HOK.out (fun S' en v e h0 => fin0 (HR0.out.trans e) h0)
            rw [HR0.out] at HDO
            clear hcs hcb Hx HO HR0
            generalize l[p] = x at *
            unfold In.val at HDO
            go_wp2_with (go_at_call 14; refine HDO.out.mono ?_; clear HDO; rintro e w9 ⟨rfl, hR9, hk9⟩)
            have HK9 := hide (HK.out.then hk9)
            go_roundw
            case rel => exact ⟨n + 1, R, by omega, by go_num, hR9, HE2, HK9.out⟩
            case measure => simp [intOf]; omega
          · obtain rfl : n = 200 := by omega
            obtain rfl : E = .none 3 := hRun.symm
            clear hM
            have hE9 := HEb.out.kp HK.out nrb
            obtain ⟨y0, y1, y2, y3, y4, y5, y6, y7, y8, y9⟩ := hE9.cs
            have yf := hE9.fz
            have hP := hE9.set (.slice none 0 0) (.slice none 0 0) (.slice none 0 0) 0 3 ⟨0, 0, ⟨#[]⟩⟩ 0 (.slice none 0 0)
            dsimp only at hP y5 y6 y7
            have HKK := hide (grown_up hgw3 (kp_from3 hB (hK35.then HK.out)))
            go_wp2
            refine bodyPost_ret (results_eb rfl _ _ rfl rfl hP.1) rfl ?_
            exact ⟨⟨_, rfl, efR_none _ 3⟩, grown_new HKK.out hP.2 (fun j e => by cases e; omega)⟩
        · obtain ⟨rv1, pv1, ov1, kv1, hM⟩ := hR
          obtain ⟨hEe, hEz⟩ := HE.out
          have HEE := hide hEe
          clear hEe HE
          obtain ⟨ra, rm, rq, rfl⟩ := OwR.sl hM.rg
          obtain ⟨pa, pm, pq, rfl⟩ := OwR.sl hM.pu
          obtain ⟨oa, om, oq, rfl⟩ := OwR.sl hM.ou
          obtain ⟨ka, km, kq, rfl⟩ := OwR.sl hM.ki
          have t12 := hM.tb.c12
          have t13 := hM.tb.c13
          have t6 := hM.tb.c6
          by_cases hlt : n < 200
          · have hni : (n : Int) < 200 := by omega
            by_cases hen : en = 0
            · have hy := hEz hen
              subst hy hen
              have hG10 := (hM.tb.sFr S.pc (.slice ra rm rq)).2
              have hX10 := (hM.tb.sFr S.pc (.slice ra rm rq)).1
              have hGd : wr.grownBy ((wr.setCell ⟨g, 10, none⟩ (.int .i64 S.pc)).setCell ⟨g, 11, none⟩ (.slice ra rm rq)).drew (some g) := ⟨hG10.os, hG10.tape, hG10.output, hG10.size, hG10.block⟩
              have hOw := hM.own hGd
              have hXd : Xb ((wr.setCell ⟨g, 10, none⟩ (.int .i64 S.pc)).setCell ⟨g, 11, none⟩ (.slice ra rm rq)).drew g _ _ _ _ _ _ _ _ _ _ _ _ _ := hX10.kept (grown_dr _) (by simp)
              have t0 := hM.tb.c0
              have t1 := hM.tb.c1
              have t10 := hM.tb.c10
              have t11 := hM.tb.c11
              have tf := hM.tb.fz
              have t11' : (wr.setCell ⟨g, 10, none⟩ (.int .i64 S.pc)).cell? ⟨g, 11, none⟩ = some (.slice none 0 0) := by rw [World.cell?_setCell_other _ _ _ _ (fun e => by cases e)]; exact t11
              have tf11' : (wr.setCell ⟨g, 10, none⟩ (.int .i64 S.pc)).frozen? ⟨g, 11, none⟩ = false := by rw [World.frozen?_setCell]; exact tf 11
              have tf10 := tf 10
              have HK10 := hide (HK.out.then (kp_of hGd hM.gB))
              have hsz10 : ((wr.setCell ⟨g, 10, none⟩ (.int .i64 S.pc)).setCell ⟨g, 11, none⟩ (.slice ra rm rq)).drew.heap.size = wr.heap.size := by show ((wr.setCell ⟨g, 10, none⟩ (.int .i64 S.pc)).setCell ⟨g, 11, none⟩ (.slice ra rm rq)).heap.size = _; simp
              have HOW := hide hOw
              have HXD := hide hXd
              clear hM hOw hXd hX10 hG10 hGd
              go_upto_region 11 with fail
              go_region
              generalize ((wr.setCell ⟨g, 10, none⟩ (.int .i64 S.pc)).setCell ⟨g, 11, none⟩ (.slice ra rm rq)).drew = W at HK10 HOW HXD hsz10 ⊢
              have t2 := HXD.out.c2
              have t3 := HXD.out.c3
              have t4 := HXD.out.c4
              have t5 := HXD.out.c5
              have t6' := HXD.out.c6
              have t7 := HXD.out.c7
              have t8 := HXD.out.c8
              have t9 := HXD.out.c9
              have t10' := HXD.out.c10
              have t11'' := HXD.out.c11
              have hE9 := HEb.out.kp HK10.out nrb
              obtain ⟨y0, y1, y2, y3, y4, y5, y6, y7, y8, y9⟩ := hE9.cs
              have yf := hE9.fz
              have hP := hE9.set (.slice pa pm pq) (.slice oa om oq) (.slice ka km kq) S.sl 0 zV S.pc (.slice ra rm rq)
              have HKK := hide (grown_up hgw3 (kp_from3 hB (hK35.then HK10.out)))
              clear t0 t1 t10 t11 t11' tf tf10 tf11' t6 t12 t13
              go_wp2
              refine bodyPost_ret (results_eb rfl _ _ rfl rfl hP.1) rfl ?_
              refine ⟨⟨_, rfl, ?_⟩, grown_new HKK.out hP.2 (fun j e => by cases e; omega)⟩
              rw [HEE.out]
              exact xefR_end HOW.out (by rw [hB1]; omega) hP.2 (.inl ⟨rfl, rfl, rfl⟩) (fun _ => rfl)
            · have henb : (en == 0) = false := beq_eq_false_iff_ne.2 hen
              have t2 := hM.tb.c2
              have t3 := hM.tb.c3
              have t4 := hM.tb.c4
              have t5 := hM.tb.c5
              have t7 := hM.tb.c7
              have t8 := hM.tb.c8
              have t9 := hM.tb.c9
              have t10 := hM.tb.c10
              have t11 := hM.tb.c11
              have hE9 := HEb.out.kp HK.out nrb
              obtain ⟨y0, y1, y2, y3, y4, y5, y6, y7, y8, y9⟩ := hE9.cs
              have yf := hE9.fz
              have hP := hE9.set (.slice pa pm pq) (.slice oa om oq) (.slice ka km kq) S.sl en y 0 (.slice none 0 0)
              have HKK := hide (grown_up hgw3 (kp_from3 hB (hK35.then HK.out)))
              have HOW : Hid (OwR V.cells 3 31 wr B.1 (.slice ra rm rq) S.rg ∧ OwR Wr.cells 7 62 wr B.1 (.slice pa pm pq) S.pu ∧ OwR V.cells 3 31 wr B.1 (.slice oa om oq) S.ou ∧ OwR Sp.cells 7 64 wr B.1 (.slice ka km kq) S.ki) := ⟨hM.rg, hM.pu, hM.ou, hM.ki⟩
              clear hM
              go_wp2
              refine bodyPost_ret (results_eb rfl _ _ rfl rfl hP.1) rfl ?_
              refine ⟨⟨_, rfl, ?_⟩, grown_new HKK.out hP.2 (fun j e => by cases e; omega)⟩
              rw [HEE.out]
              exact xefR_end HOW.out (by rw [hB1]; omega) hP.2 (.inr ⟨hen, rfl, rfl⟩) (fun h => absurd h hen)
          · have hni : ¬ (n : Int) < 200 := by omega
            by_cases hen : en = 0
            · have hy := hEz hen
              subst hy hen
              have hG10 := (hM.tb.sFr S.pc (.slice ra rm rq)).2
              have hX10 := (hM.tb.sFr S.pc (.slice ra rm rq)).1
              have hGd : wr.grownBy ((wr.setCell ⟨g, 10, none⟩ (.int .i64 S.pc)).setCell ⟨g, 11, none⟩ (.slice ra rm rq)).drew (some g) := ⟨hG10.os, hG10.tape, hG10.output, hG10.size, hG10.block⟩
              have hOw := hM.own hGd
              have hXd : Xb ((wr.setCell ⟨g, 10, none⟩ (.int .i64 S.pc)).setCell ⟨g, 11, none⟩ (.slice ra rm rq)).drew g _ _ _ _ _ _ _ _ _ _ _ _ _ := hX10.kept (grown_dr _) (by simp)
              have t0 := hM.tb.c0
              have t1 := hM.tb.c1
              have t10 := hM.tb.c10
              have t11 := hM.tb.c11
              have tf := hM.tb.fz
              have t11' : (wr.setCell ⟨g, 10, none⟩ (.int .i64 S.pc)).cell? ⟨g, 11, none⟩ = some (.slice none 0 0) := by rw [World.cell?_setCell_other _ _ _ _ (fun e => by cases e)]; exact t11
              have tf11' : (wr.setCell ⟨g, 10, none⟩ (.int .i64 S.pc)).frozen? ⟨g, 11, none⟩ = false := by rw [World.frozen?_setCell]; exact tf 11
              have tf10 := tf 10
              have HK10 := hide (HK.out.then (kp_of hGd hM.gB))
              have hsz10 : ((wr.setCell ⟨g, 10, none⟩ (.int .i64 S.pc)).setCell ⟨g, 11, none⟩ (.slice ra rm rq)).drew.heap.size = wr.heap.size := by show ((wr.setCell ⟨g, 10, none⟩ (.int .i64 S.pc)).setCell ⟨g, 11, none⟩ (.slice ra rm rq)).heap.size = _; simp
              have HOW := hide hOw
              have HXD := hide hXd
              clear hM hOw hXd hX10 hG10 hGd
              go_upto_region 11 with fail
              go_region
              generalize ((wr.setCell ⟨g, 10, none⟩ (.int .i64 S.pc)).setCell ⟨g, 11, none⟩ (.slice ra rm rq)).drew = W at HK10 HOW HXD hsz10 ⊢
              have t2 := HXD.out.c2
              have t3 := HXD.out.c3
              have t4 := HXD.out.c4
              have t5 := HXD.out.c5
              have t6' := HXD.out.c6
              have t7 := HXD.out.c7
              have t8 := HXD.out.c8
              have t9 := HXD.out.c9
              have t10' := HXD.out.c10
              have t11'' := HXD.out.c11
              have hE9 := HEb.out.kp HK10.out nrb
              obtain ⟨y0, y1, y2, y3, y4, y5, y6, y7, y8, y9⟩ := hE9.cs
              have yf := hE9.fz
              have hP := hE9.set (.slice pa pm pq) (.slice oa om oq) (.slice ka km kq) S.sl 0 zV S.pc (.slice ra rm rq)
              have HKK := hide (grown_up hgw3 (kp_from3 hB (hK35.then HK10.out)))
              clear t0 t1 t10 t11 t11' tf tf10 tf11' t6 t12 t13
              go_wp2
              refine bodyPost_ret (results_eb rfl _ _ rfl rfl hP.1) rfl ?_
              refine ⟨⟨_, rfl, ?_⟩, grown_new HKK.out hP.2 (fun j e => by cases e; omega)⟩
              rw [HEE.out]
              exact xefR_end HOW.out (by rw [hB1]; omega) hP.2 (.inl ⟨rfl, rfl, rfl⟩) (fun _ => rfl)
            · have henb : (en == 0) = false := beq_eq_false_iff_ne.2 hen
              have t2 := hM.tb.c2
              have t3 := hM.tb.c3
              have t4 := hM.tb.c4
              have t5 := hM.tb.c5
              have t7 := hM.tb.c7
              have t8 := hM.tb.c8
              have t9 := hM.tb.c9
              have t10 := hM.tb.c10
              have t11 := hM.tb.c11
              have hE9 := HEb.out.kp HK.out nrb
              obtain ⟨y0, y1, y2, y3, y4, y5, y6, y7, y8, y9⟩ := hE9.cs
              have yf := hE9.fz
              have hP := hE9.set (.slice pa pm pq) (.slice oa om oq) (.slice ka km kq) S.sl en y 0 (.slice none 0 0)
              have HKK := hide (grown_up hgw3 (kp_from3 hB (hK35.then HK.out)))
              have HOW : Hid (OwR V.cells 3 31 wr B.1 (.slice ra rm rq) S.rg ∧ OwR Wr.cells 7 62 wr B.1 (.slice pa pm pq) S.pu ∧ OwR V.cells 3 31 wr B.1 (.slice oa om oq) S.ou ∧ OwR Sp.cells 7 64 wr B.1 (.slice ka km kq) S.ki) := ⟨hM.rg, hM.pu, hM.ou, hM.ki⟩
              clear hM
              go_wp2
              refine bodyPost_ret (results_eb rfl _ _ rfl rfl hP.1) rfl ?_
              refine ⟨⟨_, rfl, ?_⟩, grown_new HKK.out hP.2 (fun j e => by cases e; omega)⟩
              rw [HEE.out]
              exact xefR_end HOW.out (by rw [hB1]; omega) hP.2 (.inr ⟨hen, rfl, rfl⟩) (fun h => absurd h hen)

end Go.Proofs.YtpoahegccjgnjaaGreatDoor

namespace Go.Proofs.YtpoahegccjgnjaaGreatDoor
open Go Go.RowKit
set_option linter.unusedVariables false

set_option maxRecDepth 100000 in
set_option maxHeartbeats 4000000 in
theorem walkR (hL : TabLook) (v rv tv : Value) (l : List In) (pc : Int) (rg : List V) (t : List Wr) (W : World) (hI : Ins W v l) (hwf : ∀ x ∈ l, x.wf) (hr : Rw V.cells 3 W rv rg) (hrw : ∀ x ∈ rg, x.wf) (ht : Rw Wr.cells 7 W tv t) (htw : ∀ x ∈ t, x.v.wf) (hG : Glob W) :
    Calls Tryz.prog 3 #[v, .agg #[.int .i64 pc, rv], tv] W fun e w' => e = .returned (.bool true) ∧ W.grownBy w' none := by
  have HI := hide hI
  have HR := hide hr
  obtain ⟨a0, c0, rfl, _⟩ := hr
  have HT := hide ht
  obtain ⟨s0, u0, rfl, _, _, _⟩ := ht
  have hga := World.grownBy_alloc W (.cells #[.int .i64 pc, .slice a0 rg.length c0] 25) none
  have f0 : (W.alloc (.cells #[.int .i64 pc, .slice a0 rg.length c0] 25)).cell? ⟨W.heap.size, 0, none⟩ = some (.int .i64 pc) := by simp
  have f1 : (W.alloc (.cells #[.int .i64 pc, .slice a0 rg.length c0] 25)).cell? ⟨W.heap.size, 1, none⟩ = some (.slice a0 rg.length c0) := by simp
  have hl := mlives_any (W.alloc (.cells #[.int .i64 pc, .slice a0 rg.length c0] 25)) (hG.keptN hga)
  clear hI
  go_enter Tryz.func3, Tryz.ntmps3
  go_upto_region 3 with (go_at_call 4; refine hl.mono ?_; rintro e w1 ⟨rfl, hg1⟩)
  have f0 := cell_g f0 hg1
  have f1 := cell_g f1 hg1
  have hgw := grown_up hga hg1
  clear hl hga hg1
  obtain ⟨E, HE⟩ : ∃ E, Hid (runE (lookT t) l pc rg = E) := ⟨_, rfl⟩
  obtain ⟨X, HX⟩ : ∃ X, Hid (runX l pc rg = X) := ⟨_, rfl⟩
  have HA := hide (run_tab hL v _ _ l pc rg t w1 (HI.out.keptN hgw) hwf (hG.keptN hgw) (HR.out.keptN hgw) hrw (HT.out.keptN hgw) htw)
  rw [HE.out, HX.out] at HA
  go_upto_region 4 with (go_at_call 5; refine HA.out.mono ?_; clear HA; rintro e w5 ⟨⟨a1, m1, c1, e1, n1, d1, r1, o1, t1, h1, p1, q1, rfl, hE1⟩, hg5⟩)
  have hA6 := World.grownBy_alloc w5 (.cells #[.slice a1 m1 c1, .slice e1 n1 d1, .slice r1 o1 t1, .int .i64 E.sl, .int .i64 E.en, .int .i64 E.v.k, .int .i64 E.v.n, .string E.v.s, .int .i64 E.pc, .slice h1 p1 q1] 33) none
  have hB6 := heap_alloc_new w5 (.cells #[.slice a1 m1 c1, .slice e1 n1 d1, .slice r1 o1 t1, .int .i64 E.sl, .int .i64 E.en, .int .i64 E.v.k, .int .i64 E.v.n, .string E.v.s, .int .i64 E.pc, .slice h1 p1 q1] 33)
  have hE6 := hE1.keptN hA6
  have hg6 := grown_up hgw (grown_up hg5 hA6)
  have hg56 := grown_up hg5 hA6
  have f0 := cell_g f0 (grown_up hg5 hA6)
  have f1 := cell_g f1 (grown_up hg5 hA6)
  have xc : ∀ (k : Nat) (u : Value), (#[.slice a1 m1 c1, .slice e1 n1 d1, .slice r1 o1 t1, .int .i64 E.sl, .int .i64 E.en, .int .i64 E.v.k, .int .i64 E.v.n, .string E.v.s, .int .i64 E.pc, .slice h1 p1 q1] : Array Value)[k]? = some u → (w5.alloc (.cells #[.slice a1 m1 c1, .slice e1 n1 d1, .slice r1 o1 t1, .int .i64 E.sl, .int .i64 E.en, .int .i64 E.v.k, .int .i64 E.v.n, .string E.v.s, .int .i64 E.pc, .slice h1 p1 q1] 33)).cell? ⟨w5.heap.size, k, none⟩ = some u := fun k u hu => by rw [cell_of_row _ _ _ _ _ _ hB6]; exact hu
  clear hE1 hA6 hB6 hg5
  generalize w5.alloc (.cells #[.slice a1 m1 c1, .slice e1 n1 d1, .slice r1 o1 t1, .int .i64 E.sl, .int .i64 E.en, .int .i64 E.v.k, .int .i64 E.v.n, .string E.v.s, .int .i64 E.pc, .slice h1 p1 q1] 33) = W6 at *
  obtain ⟨ea, hea⟩ : ∃ ea, w5.heap.size = ea := ⟨_, rfl⟩
  rw [hea] at xc ⊢
  have HB := hide (xrun_any v _ _ l pc rg t W6 (HI.out.keptN hg6) hwf (HR.out.keptN hg6) hrw (lookT_wf htw) (HT.out.keptN hg6))
  rw [HE.out, HX.out] at HB
  go_upto_region 5 with (go_at_call 6; refine HB.out.mono ?_; clear HB; rintro e w7 ⟨hRP, hg7⟩; obtain ⟨a2, m2, c2, e2, n2, d2, r2, o2, t2, h2, p2, q2, rfl, hE2⟩ := runS hRP)
  have hA8 := World.grownBy_alloc w7 (.cells #[.slice a2 m2 c2, .slice e2 n2 d2, .slice r2 o2 t2, .int .i64 E.sl, .int .i64 E.en, .int .i64 E.v.k, .int .i64 E.v.n, .string E.v.s, .int .i64 E.pc, .slice h2 p2 q2] 33) none
  have hB8 := heap_alloc_new w7 (.cells #[.slice a2 m2 c2, .slice e2 n2 d2, .slice r2 o2 t2, .int .i64 E.sl, .int .i64 E.en, .int .i64 E.v.k, .int .i64 E.v.n, .string E.v.s, .int .i64 E.pc, .slice h2 p2 q2] 33)
  have hE8 := hE2.keptN hA8
  have hg68 := grown_up hg7 hA8
  have hE9 := hE6.keptN hg68
  have hg8 := grown_up hg6 hg68
  have yc : ∀ (k : Nat) (u : Value), (#[.slice a2 m2 c2, .slice e2 n2 d2, .slice r2 o2 t2, .int .i64 E.sl, .int .i64 E.en, .int .i64 E.v.k, .int .i64 E.v.n, .string E.v.s, .int .i64 E.pc, .slice h2 p2 q2] : Array Value)[k]? = some u → (w7.alloc (.cells #[.slice a2 m2 c2, .slice e2 n2 d2, .slice r2 o2 t2, .int .i64 E.sl, .int .i64 E.en, .int .i64 E.v.k, .int .i64 E.v.n, .string E.v.s, .int .i64 E.pc, .slice h2 p2 q2] 33)).cell? ⟨w7.heap.size, k, none⟩ = some u := fun k u hu => by rw [cell_of_row _ _ _ _ _ _ hB8]; exact hu
  have xd := fun k u hu => cell_g (xc k u hu) hg68
  clear hE2 hA8 hB8 hg7 hE6 xc
  generalize w7.alloc (.cells #[.slice a2 m2 c2, .slice e2 n2 d2, .slice r2 o2 t2, .int .i64 E.sl, .int .i64 E.en, .int .i64 E.v.k, .int .i64 E.v.n, .string E.v.s, .int .i64 E.pc, .slice h2 p2 q2] 33) = W8 at *
  obtain ⟨eb, heb⟩ : ∃ eb, w7.heap.size = eb := ⟨_, rfl⟩
  rw [heb] at yc ⊢
  have HS := hide (fun W0 (h : W8.grownBy W0 none) => same16_self _ _ E W0 (hE9.keptN h) (hE8.keptN h))
  have x0 : ∀ W0, W8.grownBy W0 none → W0.cell? ⟨ea, 0, none⟩ = some (.slice a1 m1 c1) := fun W0 h => cell_g (xd 0 _ rfl) h
  have y0 : ∀ W0, W8.grownBy W0 none → W0.cell? ⟨eb, 0, none⟩ = some (.slice a2 m2 c2) := fun W0 h => cell_g (yc 0 _ rfl) h
  have x1 : ∀ W0, W8.grownBy W0 none → W0.cell? ⟨ea, 1, none⟩ = some (.slice e1 n1 d1) := fun W0 h => cell_g (xd 1 _ rfl) h
  have y1 : ∀ W0, W8.grownBy W0 none → W0.cell? ⟨eb, 1, none⟩ = some (.slice e2 n2 d2) := fun W0 h => cell_g (yc 1 _ rfl) h
  have x2 : ∀ W0, W8.grownBy W0 none → W0.cell? ⟨ea, 2, none⟩ = some (.slice r1 o1 t1) := fun W0 h => cell_g (xd 2 _ rfl) h
  have y2 : ∀ W0, W8.grownBy W0 none → W0.cell? ⟨eb, 2, none⟩ = some (.slice r2 o2 t2) := fun W0 h => cell_g (yc 2 _ rfl) h
  have x3 : ∀ W0, W8.grownBy W0 none → W0.cell? ⟨ea, 3, none⟩ = some (.int .i64 E.sl) := fun W0 h => cell_g (xd 3 _ rfl) h
  have y3 : ∀ W0, W8.grownBy W0 none → W0.cell? ⟨eb, 3, none⟩ = some (.int .i64 E.sl) := fun W0 h => cell_g (yc 3 _ rfl) h
  have x4 : ∀ W0, W8.grownBy W0 none → W0.cell? ⟨ea, 4, none⟩ = some (.int .i64 E.en) := fun W0 h => cell_g (xd 4 _ rfl) h
  have y4 : ∀ W0, W8.grownBy W0 none → W0.cell? ⟨eb, 4, none⟩ = some (.int .i64 E.en) := fun W0 h => cell_g (yc 4 _ rfl) h
  have x5 : ∀ W0, W8.grownBy W0 none → W0.cell? ⟨ea, 5, none⟩ = some (.int .i64 E.v.k) := fun W0 h => cell_g (xd 5 _ rfl) h
  have y5 : ∀ W0, W8.grownBy W0 none → W0.cell? ⟨eb, 5, none⟩ = some (.int .i64 E.v.k) := fun W0 h => cell_g (yc 5 _ rfl) h
  have x6 : ∀ W0, W8.grownBy W0 none → W0.cell? ⟨ea, 6, none⟩ = some (.int .i64 E.v.n) := fun W0 h => cell_g (xd 6 _ rfl) h
  have y6 : ∀ W0, W8.grownBy W0 none → W0.cell? ⟨eb, 6, none⟩ = some (.int .i64 E.v.n) := fun W0 h => cell_g (yc 6 _ rfl) h
  have x7 : ∀ W0, W8.grownBy W0 none → W0.cell? ⟨ea, 7, none⟩ = some (.string E.v.s) := fun W0 h => cell_g (xd 7 _ rfl) h
  have y7 : ∀ W0, W8.grownBy W0 none → W0.cell? ⟨eb, 7, none⟩ = some (.string E.v.s) := fun W0 h => cell_g (yc 7 _ rfl) h
  have x8 : ∀ W0, W8.grownBy W0 none → W0.cell? ⟨ea, 8, none⟩ = some (.int .i64 E.pc) := fun W0 h => cell_g (xd 8 _ rfl) h
  have y8 : ∀ W0, W8.grownBy W0 none → W0.cell? ⟨eb, 8, none⟩ = some (.int .i64 E.pc) := fun W0 h => cell_g (yc 8 _ rfl) h
  have x9 : ∀ W0, W8.grownBy W0 none → W0.cell? ⟨ea, 9, none⟩ = some (.slice h1 p1 q1) := fun W0 h => cell_g (xd 9 _ rfl) h
  have y9 : ∀ W0, W8.grownBy W0 none → W0.cell? ⟨eb, 9, none⟩ = some (.slice h2 p2 q2) := fun W0 h => cell_g (yc 9 _ rfl) h
  have f0 := cell_g f0 hg68
  have f1 := cell_g f1 hg68
  have z0 : ∀ W0, W8.grownBy W0 none → W0.cell? ⟨W.heap.size, 0, none⟩ = _ := fun W0 h => cell_g f0 h
  have z1 : ∀ W0, W8.grownBy W0 none → W0.cell? ⟨W.heap.size, 1, none⟩ = _ := fun W0 h => cell_g f1 h
  have HRa := hide (fun W0 (h : W8.grownBy W0 none) => m_right v _ l pc rg W0 (HI.out.keptN (grown_up hg8 h)) hwf (hG.keptN (grown_up hg8 h)) (HR.out.keptN (grown_up hg8 h)) hrw)
  have HRb := hide (fun W0 (h : W8.grownBy W0 none) => rright16_any v _ l pc rg W0 (HI.out.keptN (grown_up hg8 h)) hwf (HR.out.keptN (grown_up hg8 h)) hrw)
  obtain ⟨T, hTT⟩ : ∃ T, Hid (rightF l pc rg = T) := ⟨_, rfl⟩
  rw [hTT.out] at HRa HRb
  have hxx : (X == X) = true := by simp
  have htt : (T == T) = true := by simp
  have dr := grown_dr W8
  clear xd yc hE9 hE8 f0 f1
  go_region_held_law (fun w' => W8.grownBy w' none) (first | assumption | exact dr) (first
    | (go_at_call 7; refine (HS.out _ (by first | assumption | exact dr)).mono ?_; rintro e w9 ⟨rfl, hg9⟩; have S9 : W8.grownBy w9 none := by first | exact grown_up (by assumption) hg9 | exact grown_up dr hg9)
    | (go_at_call 8; refine (HRa.out _ (by first | assumption | exact dr)).mono ?_; rintro e w10 ⟨rfl, hg10⟩; have S10 : W8.grownBy w10 none := by first | exact grown_up (by assumption) hg10 | exact grown_up dr hg10)
    | (go_at_call 9; refine (HRb.out _ (by first | assumption | exact dr)).mono ?_; rintro e w11 ⟨rfl, hg11⟩; have S11 : W8.grownBy w11 none := by first | exact grown_up (by assumption) hg11 | exact grown_up dr hg11))
  all_goals go_wp2
  all_goals go_ret
  all_goals exact ⟨rfl, grown_up hg8 (by assumption)⟩
theorem walk (v rv tv : Value) (l : List In) (pc : Int) (rg : List V) (t : List Wr) (W : World) (hI : Ins W v l) (hwf : ∀ x ∈ l, x.wf) (hr : Rw V.cells 3 W rv rg) (hrw : ∀ x ∈ rg, x.wf) (ht : Rw Wr.cells 7 W tv t) (htw : ∀ x ∈ t, x.v.wf) (hG : Glob W) :
    Calls Tryz.prog 3 #[v, .agg #[.int .i64 pc, rv], tv] W fun e w' => e = .returned (.bool true) ∧ W.grownBy w' none := walkR look_any v rv tv l pc rg t W hI hwf hr hrw ht htw hG

end Go.Proofs.YtpoahegccjgnjaaGreatDoor
