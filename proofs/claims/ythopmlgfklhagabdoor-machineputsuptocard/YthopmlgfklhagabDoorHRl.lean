/- Contract, over the turned program: what entries have of a key, as the document reads them. Conditions: those that each theorem states. -/
import Derived.Test.YthopmlgfklhagabDoorHDk
import Derived.Test.YthopmlgfklhagabDoorHJm
import Derived.Test.YthopmlgfklhagabDoorHJa
namespace Go.Proofs.YthopmlgfklhagabDoor
open Go.RowKit
set_option linter.unusedVariables false

/-- What the loop has found so far. -/
def LkP (t : List Wr) (k : V) (j : Nat) (y : V) : Prop := ∀ u, lookT (t.take j) k = some u → u = y
set_option maxRecDepth 100000 in
set_option maxHeartbeats 2000000 in
theorem rlook_any (v : Value) (t : List Wr) (k : V) (w : World) (hR : Rw Wr.cells 7 w v t) :
    Calls Tryd.prog 7 #[v, k.val] w fun e w' => e = .returned (.tuple #[(obV (lookT t k)).val, .bool (lookT t k).isSome]) ∧ w.grownBy w' none := by
  obtain ⟨a, c, rfl, h1, h2, h3⟩ := hR
  have hlm : (t.length : Int) ≤ 9223372036854775807 := by unfold maxLen at h2; omega
  have H3 := hide h3
  clear h1 h2 h3
  obtain ⟨o, HO⟩ : ∃ o, Hid (lookT t k = o) := ⟨_, rfl⟩
  rw [HO.out]
  have hA := World.grownBy_alloc w (.cells #[.int .i64 k.k, .int .i64 k.n, .string k.s] 25) none
  have hK := Vb.new w k
  have hs1 : (w.alloc (.cells #[.int .i64 k.k, .int .i64 k.n, .string k.s] 25)).heap.size = w.heap.size + 1 := World.size_alloc _ _
  unfold V.val
  go_enter Tryd.func7, Tryd.ntmps7
  go_upto_region 1 with fail
  generalize w.alloc (.cells #[.int .i64 k.k, .int .i64 k.n, .string k.s] 25) = W1 at *
  have hB := World.grownBy_alloc W1 (.cells #[.int .i64 0, .int .i64 0, .string ⟨#[]⟩] 25) none
  have hR1 := Vb.new W1 ⟨0, 0, ⟨#[]⟩⟩
  have hs2 : (W1.alloc (.cells #[.int .i64 0, .int .i64 0, .string ⟨#[]⟩] 25)).heap.size = w.heap.size + 1 + 1 := by rw [World.size_alloc, hs1]
  have hC := World.grownBy_alloc (W1.alloc (.cells #[.int .i64 0, .int .i64 0, .string ⟨#[]⟩] 25)) (.cells #[.int .i64 0, .int .i64 0, .string ⟨#[]⟩] 25) none
  have hY := Vb.new (W1.alloc (.cells #[.int .i64 0, .int .i64 0, .string ⟨#[]⟩] 25)) ⟨0, 0, ⟨#[]⟩⟩
  rw [hs2] at hY
  rw [hs1] at hR1
  dsimp only at hR1 hY
  have hK3 := (hK.kept hB (by simp)).kept hC (by simp)
  have hR3 := hR1.kept hC (by simp)
  have hg3 := grown_up (grown_up hA hB) hC
  go_upto_region 2 with fail
  clear hA hB hC hK hR1 hs1 hs2
  generalize (W1.alloc (.cells #[.int .i64 0, .int .i64 0, .string ⟨#[]⟩] 25)).alloc (.cells #[.int .i64 0, .int .i64 0, .string ⟨#[]⟩] 25) = W3 at *
  go_wp2_with fail
  go_loopw [7, 8] (fun b i wr => ∃ (j : Nat) (y : V), j ≤ t.length ∧ i = .int .i64 (j : Int) ∧ b = .bool (lookT (t.take j) k).isSome ∧ Vb wr w.heap.size k ∧ Vb wr (w.heap.size + 1) ⟨0, 0, ⟨#[]⟩⟩ ∧ Vb wr (w.heap.size + 1 + 1) y ∧ w.grownBy wr none ∧ Hid (LkP t k j y)) (fun _ i _ => t.length - (intOf i).toNat)
  case atStart => exact ⟨0, _, Nat.zero_le _, rfl, rfl, hK3, hR3, hY, hg3, fun u hu => by cases hu⟩
  case round =>
    obtain ⟨j, y, hj, rfl, rfl, hK, hR, hY, hg, HL⟩ := hrel
    by_cases hlt : j < t.length
    · have hji : (j : Int) < (t.length : Int) := by omega
      obtain ⟨b, off, rfl, hb, hcb⟩ := H3.out j hlt
      have hcs := fun i u hu => cell_g (hcb i u hu) hg
      have HT := hide (lookT_take t k j hlt)
      rw [getD_lt t j dW hlt] at HT
      generalize t[j] = x at *
      have u0 : wr.cell? ⟨b, off + j * 7, none⟩ = some (.int .i64 x.k.k) := hcs 0 _ rfl
      have u1 := hcs 1 _ rfl
      have u2 := hcs 2 _ rfl
      have u3 := hcs 3 _ rfl
      have u4 := hcs 4 _ rfl
      have u5 := hcs 5 _ rfl
      have u6 := hcs 6 _ rfl
      have k0 := hK.c0
      have k1 := hK.c1
      have k2 := hK.c2
      have y0 := hY.c0
      have y1 := hY.c1
      have y2 := hY.c2
      have yf := hY.fz
      have heq : ∀ W0 : World, (binOp .eql 25 (.agg #[.int .i64 x.k.k, .int .i64 x.k.n, .string x.k.s]) (.agg #[.int .i64 k.k, .int .i64 k.n, .string k.s])).run Tryd.prog W0 = .ok (.bool (eqV x.k k)) W0 := fun W0 => run_eqV _ _ _ _ _ _ W0
      clear hcs hcb
      go_upto_region 6 with fail
      go_region
      obtain ⟨B, HB⟩ : ∃ B, Hid ((lookT (t.take j) k).isSome = B) := ⟨_, rfl⟩
      rw [HB.out]
      cases he : eqV x.k k with
      | false =>
        have HT' := HT.out
        rw [he, if_neg (by simp)] at HT'
        have HT2 := hide HT'
        clear HT' he
        go_wp2_with fail
        go_roundw
        case rel => exact ⟨j + 1, y, by omega, by go_num, by rw [HT2.out, HB.out], hK.kept (grown_dr _) (by simp), hR.kept (grown_dr _) (by simp), hY.kept (grown_dr _) (by simp), grown_up hg (grown_dr _), fun u hu => HL.out u (by rw [← HT2.out]; exact hu)⟩
        case measure => simp [intOf]; omega
      | true =>
        have HT' := HT.out
        rw [he, if_pos rfl] at HT'
        have HT2 := hide HT'
        clear HT' he
        have hP := vb_set (hY.kept (grown_dr _) (by simp)) x.v
        have hbq : b < w.heap.size := hb
        have hP2 := hP.2
        have u6' : (((((World.drew wr).setCell ⟨w.heap.size + 1 + 1, 0, none⟩ (.int .i64 x.v.k)).setCell ⟨w.heap.size + 1 + 1, 1, none⟩ (.int .i64 x.v.n)).setCell ⟨w.heap.size + 1 + 1, 2, none⟩ (.string x.v.s))).cell? ⟨b, off + j * 7 + 6, none⟩ = some (.bool x.g) := (cell_same (hP2.block b (Nat.lt_of_lt_of_le hb hg.size) (by simp; omega)) _).trans u6
        have hK6 := (hK.kept (grown_dr _) (by simp)).kept hP2 (by simp; omega)
        have hR6 := (hR.kept (grown_dr _) (by simp)).kept hP2 (by simp)
        have HG6 := hide (grown_new (grown_up hg (grown_dr _)) hP2 (fun j e => by cases e; omega))
        have HY6 := hide hP.1
        clear hP hP2 hK hR hY
        obtain ⟨gn, HGN⟩ : ∃ gn, Hid (x.g = gn) := ⟨_, rfl⟩
        rw [HGN.out] at u6'
        cases gn with
        | true =>
          have HB2 : Hid (lookT (t.take (j + 1)) k = none) := by show _ = _; rw [HT2.out]; unfold beh; rw [if_pos HGN.out]
          go_wp2_with fail
          go_roundw
          case rel => exact ⟨j + 1, x.v, by omega, by go_num, by rw [HB2.out, HGN.out]; rfl, hK6, hR6, HY6.out, HG6.out, fun u hu => by rw [HB2.out] at hu; cases hu⟩
          case measure => simp [intOf]; omega
        | false =>
          have HB2 : Hid (lookT (t.take (j + 1)) k = some x.v) := by show _ = _; rw [HT2.out]; unfold beh; rw [if_neg (by rw [HGN.out]; simp)]
          go_wp2_with fail
          go_roundw
          case rel => exact ⟨j + 1, x.v, by omega, by go_num, by rw [HB2.out, HGN.out]; rfl, hK6, hR6, HY6.out, HG6.out, fun u hu => by rw [HB2.out] at hu; cases hu; rfl⟩
          case measure => simp [intOf]; omega
    · obtain rfl : j = t.length := by omega
      have HE : Hid (lookT (t.take t.length) k = o) := by show _ = _; rw [List.take_length]; exact HO.out
      have y0 := hY.c0
      have y1 := hY.c1
      have y2 := hY.c2
      have r0 := hR.c0
      have r1 := hR.c1
      have r2 := hR.c2
      have rf := hR.fz
      dsimp only at r0 r1 r2
      rw [HE.out]
      cases o with
      | none =>
        have hP := vb_set hR ⟨0, 0, ⟨#[]⟩⟩
        dsimp only at hP
        go_wp2
        refine bodyPost_ret (results_vb rfl _ (w.heap.size + 1) _ ⟨0, 0, ⟨#[]⟩⟩ _ rfl rfl hP.1) rfl ?_
        exact ⟨rfl, grown_new hg hP.2 (fun j e => by cases e; omega)⟩
      | some u =>
        obtain rfl : u = y := HL.out u HE.out
        have hP := vb_set hR u
        go_wp2
        refine bodyPost_ret (results_vb rfl _ (w.heap.size + 1) _ u _ rfl rfl hP.1) rfl ?_
        exact ⟨rfl, grown_new hg hP.2 (fun j e => by cases e; omega)⟩

end Go.Proofs.YthopmlgfklhagabDoor
