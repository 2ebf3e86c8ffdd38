/- The walk of the law CacheReads. Conditions: those that the theorem states. -/
import Derived.Test.YtcfhgfelmofgjaaGreatCFill
import Derived.Test.YtcfhgfelmofgjaaGreatCOpen
namespace Go.Proofs.YtcfhgfelmofgjaaGreat.cacheReads
open Go.RowKit
set_option linter.unusedVariables false

set_option maxRecDepth 100000 in
set_option maxHeartbeats 6400000 in
theorem walk (n0 z0 : Int) (a : Option Addr) (len cap : Nat) (L : List Cop) (w : World) (hB : Sts Cop.cells 3 (fun o _ => o.ok) w.heap.size w (.slice a len cap) L) : Calls Tryz.prog 3 #[.int .i64 n0, .int .i64 z0, .slice a len cap] w fun e w' => e = .returned (.bool true) ∧ w.grownBy w' none := by
  obtain ⟨hlen, hcap, hcm⟩ : len = L.length ∧ L.length ≤ cap ∧ cap ≤ maxLen := by
    obtain ⟨a', c', h0, h1, h2, _⟩ := hB
    cases h0
    exact ⟨rfl, h1, h2⟩
  have hT := hB.take (min len 300) (by omega)
  have hTn : (L.take (min len 300)).length = min len 300 := by rw [List.length_take]; omega
  have hea := cearly_any a len cap
  clear hB
  obtain ⟨L2, HL2⟩ : ∃ L2, Hid (L.take (min len 300) = L2) := ⟨_, rfl⟩
  rw [HL2.out] at hT hTn
  have hL30 : L2.length ≤ 300 := by omega
  rw [← hTn] at hT hea
  have hcl : len ≤ cap := by omega
  clear hTn hlen hcap
  obtain ⟨a', c', h0, _, _, hcs'⟩ := hT
  cases h0
  have hcs := hide hcs'
  clear hcs'
  have hnn := pgN_le n0
  obtain ⟨n, HN⟩ : ∃ n, Hid (pgN n0 = n) := ⟨_, rfl⟩
  rw [HN.out] at hnn
  go_enter Tryz.func3, Tryz.ntmps3
  go_upto_region 4 with (first
    | (go_at_call 6; refine (clives_any _).mono ?_; rintro e w1 ⟨rfl, hk1⟩)
    | fail)
  have HNW := pgN_wrap n0
  rw [HN.out] at HNW
  rw [HNW.out]
  have HOP := fun W => hide (opened_any n W hnn.1 (by omega))
  go_upto_region 6 with (first
    | (go_at_call 7; refine (hea _ hcl hcm).mono ?_; rintro e w' ⟨rfl, rfl⟩)
    | (go_at_call 9; refine (HOP _).out.mono ?_; rintro e w2 ⟨p, D, g, rfl, hR2, hst, hP2, hg2, hm2, hk2⟩)
    | (go_at_call 8; refine (cnew_any z0 hR2 hst hP2 (by omega) (fun _ => fillB_size 0)).mono ?_; rintro e w3 ⟨q, rfl, hqn, hqs, _, _, hC3, hk3⟩)
    | fail)
  obtain ⟨w4, hmk, hO4, hk4⟩ := make_bytes w3 n (by omega)
  have hK4 := ((hk1.then hk2).then hk3).then hk4
  have hg4 : w3.heap.size < w4.heap.size := (hO4.lt w3.heap.size rfl).2
  have hw3 : w.heap.size ≤ w3.heap.size := ((hk1.then hk2).then hk3).size
  have hC4 : Cst w4 q (fun k => w.heap.size ≤ k ∧ k ≠ w3.heap.size) D (pgs1 (List.replicate n 0)) (((0 : Nat) : Int) * 300) 0 ⟨[], 0, 0⟩ := by
    have h1 : Cas w3 q (fun k => w.heap.size ≤ k ∧ k ≠ w3.heap.size) D (fun _ => fillB 0) 0 0 [] 0 0 := hC3.mono (fun k hk h => ⟨by
      rcases h with h | h | h
      · exact Nat.le_trans hk1.size (hm2 k h)
      · rw [h]; exact Nat.le_trans hk1.size hg2
      · exact Nat.le_trans (hk1.then hk2).size h, by omega⟩)
    rw [pgs1_new n] at h1
    exact h1.keptN hk4
  obtain ⟨gb, HG⟩ : ∃ gb, Hid (w3.heap.size = gb) := ⟨_, rfl⟩
  rw [HG.out] at hmk hO4 hg4 hw3 hC4
  clear hC3 hR2 hP2 hm2 hk1 hk2 hk3 hk4 hea HOP
  go_upto_region 7 with (first
    | (at_make; refine wpList_make_at rfl (.tmp 28) (.tmp 28) 30 rfl _ _ rfl rfl hmk ?_)
    | fail)
  clear hmk
  go_wp2
  go_loopw [9] (fun t wr => ∃ (j : Nat) (D : Dv) (cm : Int) (s : St) (P : List UInt8), j ≤ L2.length ∧ t = .int .i64 j ∧ Cst wr q (fun k => w.heap.size ≤ k ∧ k ≠ gb) D (pgs1 P) ((j : Int) * 300) cm s ∧ 0 ≤ cm ∧ cm ≤ j ∧ s.h + s.m ≤ j ∧ P.length = n ∧ Own 5 wr gb (.slice (some ⟨gb, 0, none⟩) n n) P ∧ gb < wr.heap.size ∧ Kp none' w wr) (fun t _ => L2.length - (intOf t).toNat)
  case atStart => exact ⟨0, D, 0, ⟨[], 0, 0⟩, List.replicate n 0, Nat.zero_le _, rfl, hC4, Int.le_refl _, by omega, Nat.le_refl _, List.length_replicate, hO4, hg4, hK4⟩
  case round =>
    obtain ⟨j, D, cm, s, P, hj, rfl, hC, hcm0, hcm1, hsm, hPn, hO, hgr, hK⟩ := hrel
    clear hC4 hO4 hK4 hg4
    by_cases hlt : j < L2.length
    · have hji : (j : Int) < (L2.length : Int) := by omega
      obtain ⟨b, off, rfl, hbl, hra, hoo⟩ := hcs.out j hlt
      obtain ⟨o, HOo⟩ : ∃ o, Hid (L2[j] = o) := ⟨_, hide rfl⟩
      rw [HOo.out] at hra hoo
      obtain ⟨z, b8, wt⟩ := o
      have d0 : wr.cell? ⟨b, off + j * 3 + 0, none⟩ = some (.int .i64 z) := hK.cell (hra 0 _ rfl) (fun h => h)
      have d1 : wr.cell? ⟨b, off + j * 3 + 1, none⟩ = some (.int .u8 (b8.toNat : Int)) := hK.cell (hra 1 _ rfl) (fun h => h)
      have d2 : wr.cell? ⟨b, off + j * 3 + 2, none⟩ = some (.bool wt) := hK.cell (hra 2 _ rfl) (fun h => h)
      rw [Nat.add_zero] at d0
      have hz64 : -9223372036854775808 ≤ z ∧ z < 9223372036854775808 := hoo
      clear hra hoo
      have k5 := Kp.alloc none' wr (.cells #[.int .i64 z, .int .u8 (b8.toNat : Int), .bool wt] 32)
      have v0 := new_cell wr #[.int .i64 z, .int .u8 (b8.toNat : Int), .bool wt] 32 0 _ rfl
      have v1 := new_cell wr #[.int .i64 z, .int .u8 (b8.toNat : Int), .bool wt] 32 1 _ rfl
      have v2 := new_cell wr #[.int .i64 z, .int .u8 (b8.toNat : Int), .bool wt] 32 2 _ rfl
      have s5 : (wr.alloc (.cells #[.int .i64 z, .int .u8 (b8.toNat : Int), .bool wt] 32)).heap.size = wr.heap.size + 1 := by simp
      go_upto_region 11 with fail
      obtain ⟨gv, HV⟩ : ∃ gv, Hid (wr.heap.size = gv) := ⟨_, rfl⟩
      rw [HV.out] at v0 v1 v2 s5 ⊢
      obtain ⟨W5, H5⟩ : ∃ W5, Hid (wr.alloc (.cells #[.int .i64 z, .int .u8 (b8.toNat : Int), .bool wt] 32) = W5) := ⟨_, rfl⟩
      rw [H5.out] at k5 v0 v1 v2 s5 ⊢
      have hK5 := hK.then k5
      have hC5 := Cas.keptN hC k5
      have hO5 := hO.keptK k5 (fun _ _ h => h)
      have hgb5 : gb < W5.heap.size := by have := HV.out; omega
      have hgvb : gv ≠ gb := by have := HV.out; omega
      have hw5 : w.heap.size ≤ W5.heap.size := hK5.size
      have hCn : Cst wr q (fun k => (w.heap.size ≤ k ∧ k ≠ gb) ∧ k < gv) D (pgs1 P) ((j : Int) * 300) cm s := Cas.mono hC (fun k hk h => ⟨h, by have := HV.out; omega⟩)
      have hC6 := Cas.keptN hCn k5
      have hgw : gv < W5.heap.size := by omega
      clear hC hO hK k5 d0 d1 d2 hCn
      cases wt with
      | true =>
        have t0 : W5.drew.cell? ⟨gv, 0, none⟩ = some (.int .i64 z) ∧ W5.drew.cell? ⟨gv, 1, none⟩ = some (.int .u8 (b8.toNat : Int)) := ⟨v0, v1⟩
        have kA : ∀ (W : World) (o : Obj), (W.cell? ⟨gv, 0, none⟩ = some (.int .i64 z) ∧ W.cell? ⟨gv, 1, none⟩ = some (.int .u8 (b8.toNat : Int))) → ((W.alloc o).cell? ⟨gv, 0, none⟩ = some (.int .i64 z) ∧ (W.alloc o).cell? ⟨gv, 1, none⟩ = some (.int .u8 (b8.toNat : Int))) := fun W o h => ⟨(Kp.alloc none' W o).cell h.1 (fun h => h), (Kp.alloc none' W o).cell h.2 (fun h => h)⟩
        obtain ⟨X, HX⟩ : ∃ X, Hid (fillB b8 = X) := ⟨_, rfl⟩
        have hXs : X.size = 256 := by rw [← HX.out]; exact fillB_size _
        have hfi := cfill_any b8 W5.drew
        rw [HX.out] at hfi
        obtain ⟨E, HE⟩ : ∃ E, Hid (rdCE q.n z = E) := ⟨_, rfl⟩
        have HCO : Hid (∀ w6 : World, Kp none' W5.drew w6 → Calls Tryz.prog 10 #[.pointer (some ⟨q.c, 0, none⟩), .slice (some ⟨w6.heap.size, 0, none⟩) 1 1] (w6.alloc (.cells #[.int .i64 z, .string X] 37)) fun e w' => ∃ D' c', e = .returned (.int .i64 E) ∧ Cst w' q (fun k => (w.heap.size ≤ k ∧ k ≠ gb) ∧ k < gv) D' (if inR q.n z then withC (pgs1 P) [⟨z, X⟩] else pgs1 P) ((j : Int) * 300 + 300) c' s ∧ Kp (fun k => (w.heap.size ≤ k ∧ k ≠ gb) ∧ k < gv) (w6.alloc (.cells #[.int .i64 z, .string X] 37)) w' ∧ cm ≤ c' ∧ c' ≤ cm + 1) := fun w6 hk6 => by
          have h6 := (Kp.drew none' W5).then (hk6.then (Kp.alloc none' w6 (.cells #[.int .i64 z, .string X] 37)))
          have := commit_one (B := w6.heap.size) (z := z) (X := X) (Cas.keptN hC6 h6) (by omega) hcm0 (by omega) (new_cell _ _ _ 0 _ rfl) (new_cell _ _ _ 1 _ rfl) (fun h => by have := hk6.size; have h7 := h.2; have : W5.drew.heap.size = W5.heap.size := rfl; omega) hz64 hXs
          rw [HE.out] at this
          exact this
        have HT7 : Hid (∀ w6 w7 : World, Kp none' W5.drew w6 → Kp (fun k => (w.heap.size ≤ k ∧ k ≠ gb) ∧ k < gv) (w6.alloc (.cells #[.int .i64 z, .string X] 37)) w7 → w7.cell? ⟨gv, 0, none⟩ = some (.int .i64 z) ∧ w7.cell? ⟨gv, 1, none⟩ = some (.int .u8 (b8.toNat : Int))) := fun w6 w7 hk6 hk7 => by
          have ka := Kp.alloc none' w6 (.cells #[.int .i64 z, .string X] 37)
          exact ⟨hk7.cell (ka.cell (hk6.cell t0.1 (fun h => h)) (fun h => h)) (fun h => absurd h.2 (by omega)), hk7.cell (ka.cell (hk6.cell t0.2 (fun h => h)) (fun h => h)) (fun h => absurd h.2 (by omega))⟩
        have HK7 : Hid (∀ w6 w7 : World, Kp none' W5.drew w6 → Kp (fun k => (w.heap.size ≤ k ∧ k ≠ gb) ∧ k < gv) (w6.alloc (.cells #[.int .i64 z, .string X] 37)) w7 → Kp (fun k => (w.heap.size ≤ k ∧ k ≠ gb) ∧ k < gv) W5 w7) := fun w6 w7 hk6 hk7 => ((Kp.drew none' W5).then (hk6.then (Kp.alloc none' w6 (.cells #[.int .i64 z, .string X] 37)))).nThen hk7
        by_cases hz0 : 0 ≤ z
        · by_cases hz1 : z < (n : Int)
          · have hin : inR q.n z = true := by rw [hqn]; exact inR_iff.2 ⟨hz0, hz1⟩
            go_upto_region 13 with fail
            go_region_held_law (fun W => W.cell? ⟨gv, 0, none⟩ = some (.int .i64 z) ∧ W.cell? ⟨gv, 1, none⟩ = some (.int .u8 (b8.toNat : Int))) (first | assumption | exact kA _ _ (by assumption)) (first
              | (go_at_call 11; refine hfi.mono ?_; rintro e w6 ⟨rfl, hk6⟩; have T6 : w6.cell? ⟨gv, 0, none⟩ = some (.int .i64 z) ∧ w6.cell? ⟨gv, 1, none⟩ = some (.int .u8 (b8.toNat : Int)) := ⟨hk6.cell t0.1 (fun h => h), hk6.cell t0.2 (fun h => h)⟩)
              | (go_at_call 10; refine (HCO.out w6 hk6).mono ?_; rintro e w7 ⟨D', c', rfl, hC7, hk7, hc7a, hc7b⟩; have T7 : w7.cell? ⟨gv, 0, none⟩ = some (.int .i64 z) ∧ w7.cell? ⟨gv, 1, none⟩ = some (.int .u8 (b8.toNat : Int)) := HT7.out w6 w7 hk6 hk7)
              | fail)
            rw [if_pos hin] at hC7
            obtain rfl : E = 0 := by rw [← HE.out]; unfold rdCE; rw [if_pos hin]
            obtain ⟨k, hzk⟩ : ∃ k : Nat, z = (k : Int) := ⟨z.toNat, by omega⟩
            subst hzk
            have hkP : k < P.length := by omega
            rw [← HX.out, pgs1_set P k b8 hkP] at hC7
            have hK7 := HK7.out w6 w7 hk6 hk7
            have hO7 := hO5.keptK hK7 (fun k hk h => h.1.2 (by injection hk with hk; exact hk.symm))
            have hcl7 := hO7.cellAt k hkP
            have q1 := hcl7.1
            have q2 := hcl7.2
            have HST := hide (hO7.stored k b8)
            have hKw : Kp none' w w7 := hK5.trans hK7 (fun _ _ h => h) (fun k hk h => absurd h.1.1 (by omega))
            have hkn : (k : Int) < (n : Int) := hz1
            clear hO5 hK5 HCO HK7 HT7 hC6 hC5 hO7 hcl7
            go_wp2
            go_roundw
            case rel => exact ⟨j + 1, D', c', s, P.set k b8, by omega, by go_num, Cas.mono (Cas.kept (M_le hC7 (by omega)) (Kp.ofGrown HST.out.2 (S := only gb) (fun k he _ => by cases he; rfl)) (fun k _ h e => h.1.2 e)) (fun k _ h => h.1), by omega, by omega, by omega, by rw [List.length_set]; exact hPn, HST.out.1, Nat.lt_of_lt_of_le (Nat.lt_of_lt_of_le hgb5 hK7.size) HST.out.2.size, hKw.trans (Kp.ofGrown HST.out.2 (S := only gb) (fun k he _ => by cases he; rfl)) (fun _ _ h => h) (fun k hk e => absurd hk (by have e' : k = gb := e; omega))⟩
            case measure => simp [intOf]; omega
          · have hin : ¬ inR q.n z = true := by rw [hqn]; exact fun h => by have := inR_iff.1 h; omega
            go_upto_region 13 with fail
            go_region_held_law (fun W => W.cell? ⟨gv, 0, none⟩ = some (.int .i64 z) ∧ W.cell? ⟨gv, 1, none⟩ = some (.int .u8 (b8.toNat : Int))) (first | assumption | exact kA _ _ (by assumption)) (first
              | (go_at_call 11; refine hfi.mono ?_; rintro e w6 ⟨rfl, hk6⟩; have T6 : w6.cell? ⟨gv, 0, none⟩ = some (.int .i64 z) ∧ w6.cell? ⟨gv, 1, none⟩ = some (.int .u8 (b8.toNat : Int)) := ⟨hk6.cell t0.1 (fun h => h), hk6.cell t0.2 (fun h => h)⟩)
              | (go_at_call 10; refine (HCO.out w6 hk6).mono ?_; rintro e w7 ⟨D', c', rfl, hC7, hk7, hc7a, hc7b⟩; have T7 : w7.cell? ⟨gv, 0, none⟩ = some (.int .i64 z) ∧ w7.cell? ⟨gv, 1, none⟩ = some (.int .u8 (b8.toNat : Int)) := HT7.out w6 w7 hk6 hk7)
              | fail)
            rw [if_neg hin] at hC7
            obtain rfl : E = 7 := by rw [← HE.out]; unfold rdCE; rw [if_neg hin]
            have hK7 := HK7.out w6 w7 hk6 hk7
            have hO7 := hO5.keptK hK7 (fun k hk h => h.1.2 (by injection hk with hk; exact hk.symm))
            have hKw : Kp none' w w7 := hK5.trans hK7 (fun _ _ h => h) (fun k hk h => absurd h.1.1 (by omega))
            clear hO5 hK5 HCO HK7 HT7 hC6 hC5
            go_wp2
            go_roundw
            case rel => exact ⟨j + 1, D', c', s, P, by omega, by go_num, Cas.mono (M_le hC7 (by omega)) (fun k _ h => h.1), by omega, by omega, by omega, hPn, hO7, Nat.lt_of_lt_of_le hgb5 hK7.size, hKw⟩
            case measure => simp [intOf]; omega
        · have hin : ¬ inR q.n z = true := by rw [hqn]; exact fun h => by have := inR_iff.1 h; omega
          go_upto_region 13 with fail
          go_region_held_law (fun W => W.cell? ⟨gv, 0, none⟩ = some (.int .i64 z) ∧ W.cell? ⟨gv, 1, none⟩ = some (.int .u8 (b8.toNat : Int))) (first | assumption | exact kA _ _ (by assumption)) (first
            | (go_at_call 11; refine hfi.mono ?_; rintro e w6 ⟨rfl, hk6⟩; have T6 : w6.cell? ⟨gv, 0, none⟩ = some (.int .i64 z) ∧ w6.cell? ⟨gv, 1, none⟩ = some (.int .u8 (b8.toNat : Int)) := ⟨hk6.cell t0.1 (fun h => h), hk6.cell t0.2 (fun h => h)⟩)
            | (go_at_call 10; refine (HCO.out w6 hk6).mono ?_; rintro e w7 ⟨D', c', rfl, hC7, hk7, hc7a, hc7b⟩; have T7 : w7.cell? ⟨gv, 0, none⟩ = some (.int .i64 z) ∧ w7.cell? ⟨gv, 1, none⟩ = some (.int .u8 (b8.toNat : Int)) := HT7.out w6 w7 hk6 hk7)
            | fail)
          rw [if_neg hin] at hC7
          obtain rfl : E = 7 := by rw [← HE.out]; unfold rdCE; rw [if_neg hin]
          have hK7 := HK7.out w6 w7 hk6 hk7
          have hO7 := hO5.keptK hK7 (fun k hk h => h.1.2 (by injection hk with hk; exact hk.symm))
          have hKw : Kp none' w w7 := hK5.trans hK7 (fun _ _ h => h) (fun k hk h => absurd h.1.1 (by omega))
          clear hO5 hK5 HCO HK7 HT7 hC6 hC5
          go_wp2
          go_roundw
          case rel => exact ⟨j + 1, D', c', s, P, by omega, by go_num, Cas.mono (M_le hC7 (by omega)) (fun k _ h => h.1), by omega, by omega, by omega, hPn, hO7, Nat.lt_of_lt_of_le hgb5 hK7.size, hKw⟩
          case measure => simp [intOf]; omega
      | false =>
        have hrd := cread_any hC6 (by omega) z
        by_cases hz0 : 0 ≤ z
        · by_cases hz1 : z < (n : Int)
          · have hin : inR q.n z = true := by rw [hqn]; exact inR_iff.2 ⟨hz0, hz1⟩
            obtain ⟨k, hzk⟩ : ∃ k : Nat, z = (k : Int) := ⟨z.toNat, by omega⟩
            subst hzk
            have hkP : k < P.length := by omega
            have hkn : (k : Int) < (n : Int) := hz1
            obtain ⟨X, HX⟩ : ∃ X, Hid (fillB P[k] = X) := ⟨_, hide rfl⟩
            have e1 : rdCS q.n (pgs1 P) (k : Int) = X := by
              unfold rdCS pgs1
              rw [if_pos hin, ← HX.out, List.getD_eq_getElem?_getD]
              simp [hkP]
            have e2 : rdCE q.n (k : Int) = 0 := by unfold rdCE; rw [if_pos hin]
            rw [e1, e2] at hrd
            have HRD := hide hrd
            clear hrd e1 e2
            have hfi := fun W => cfill_any P[k] W
            rw [HX.out] at hfi
            have hxx : (X.toList == X.toList) = true := by simp
            obtain ⟨pk, HPK⟩ : ∃ pk, Hid (P[k] = pk) := ⟨_, hide rfl⟩
            have HCL7 : Hid (∀ w7, Kp (fun k => (w.heap.size ≤ k ∧ k ≠ gb) ∧ k < gv) W5 w7 → w7.cell? ⟨gv, 0, none⟩ = some (.int .i64 (k : Int)) ∧ w7.cell? ⟨gb, k, none⟩ = some (.int .u8 (pk.toNat : Int))) := fun w7 hk7 => by
              have hO7 := hO5.keptK hk7 (fun k hk h => h.1.2 (by injection hk with hk; exact hk.symm))
              have := (hO7.cellAt k hkP).1
              rw [HPK.out] at this
              exact ⟨hk7.cell v0 (fun h => absurd h.2 (by omega)), this⟩
            rw [HPK.out] at hfi
            go_wp2_with (first
              | (go_at_call 12; refine HRD.out.mono ?_; rintro e w7 ⟨rfl, hC7, hk7⟩; obtain ⟨y0, y1⟩ := HCL7.out w7 hk7)
              | (go_at_call 11; refine (hfi _).mono ?_; rintro e w8 ⟨rfl, hk8⟩)
              | fail)
            have hO7 := (hO5.keptK hk7 (fun k hk h => h.1.2 (by injection hk with hk; exact hk.symm))).keptK hk8 (fun _ _ h => h)
            have hKw : Kp none' w w8 := (hK5.trans hk7 (fun _ _ h => h) (fun k hk h => absurd h.1.1 (by omega))).then hk8
            have hsu := St.sum (sz := q.sz) (n := q.n) s (k : Int)
            rw [if_pos hin] at hsu
            go_roundw
            case rel => exact ⟨j + 1, D, cm, _, P, by omega, by go_num, Cas.mono (M_le (Cas.keptN hC7 hk8) (by omega)) (fun k _ h => by
                rcases h with h | h
                · exact h.1
                · exact ⟨by omega, by omega⟩), hcm0, by omega, by omega, hPn, hO7, Nat.lt_of_lt_of_le hgb5 (Nat.le_trans hk7.size hk8.size), hKw⟩
            case measure => simp [intOf]; omega
          · have hin : ¬ inR q.n z = true := by rw [hqn]; exact fun h => by have := inR_iff.1 h; omega
            rw [show rdCS q.n (pgs1 P) z = ⟨#[]⟩ by unfold rdCS; rw [if_neg hin], show rdCE q.n z = 7 by unfold rdCE; rw [if_neg hin]] at hrd
            have HRD := hide hrd
            clear hrd
            go_wp2_with (first
              | (go_at_call 12; refine HRD.out.mono ?_; rintro e w7 ⟨rfl, hC7, hk7⟩)
              | fail)
            have hO7 := hO5.keptK hk7 (fun k hk h => h.1.2 (by injection hk with hk; exact hk.symm))
            have hKw : Kp none' w w7 := hK5.trans hk7 (fun _ _ h => h) (fun k hk h => absurd h.1.1 (by omega))
            have hsu := St.sum (sz := q.sz) (n := q.n) s z
            rw [if_neg hin] at hsu
            go_roundw
            case rel => exact ⟨j + 1, D, cm, _, P, by omega, by go_num, Cas.mono (M_le hC7 (by omega)) (fun k _ h => by
                rcases h with h | h
                · exact h.1
                · exact ⟨by omega, by omega⟩), hcm0, by omega, by omega, hPn, hO7, Nat.lt_of_lt_of_le hgb5 hk7.size, hKw⟩
            case measure => simp [intOf]; omega
        · have hin : ¬ inR q.n z = true := by rw [hqn]; exact fun h => by have := inR_iff.1 h; omega
          rw [show rdCS q.n (pgs1 P) z = ⟨#[]⟩ by unfold rdCS; rw [if_neg hin], show rdCE q.n z = 7 by unfold rdCE; rw [if_neg hin]] at hrd
          have HRD := hide hrd
          clear hrd
          go_wp2_with (first
            | (go_at_call 12; refine HRD.out.mono ?_; rintro e w7 ⟨rfl, hC7, hk7⟩)
            | fail)
          have hO7 := hO5.keptK hk7 (fun k hk h => h.1.2 (by injection hk with hk; exact hk.symm))
          have hKw : Kp none' w w7 := hK5.trans hk7 (fun _ _ h => h) (fun k hk h => absurd h.1.1 (by omega))
          have hsu := St.sum (sz := q.sz) (n := q.n) s z
          rw [if_neg hin] at hsu
          go_roundw
          case rel => exact ⟨j + 1, D, cm, _, P, by omega, by go_num, Cas.mono (M_le hC7 (by omega)) (fun k _ h => by
              rcases h with h | h
              · exact h.1
              · exact ⟨by omega, by omega⟩), hcm0, by omega, by omega, hPn, hO7, Nat.lt_of_lt_of_le hgb5 hk7.size, hKw⟩
          case measure => simp [intOf]; omega
    · obtain rfl : j = L2.length := by omega
      have hpa := cpages_any hC
      rw [hqn] at hpa
      have hnn2 : ((n : Int) == (n : Int)) = true := by simp
      go_wp2_with (first
        | (go_at_call 13; refine hpa.mono ?_; rintro e w' ⟨rfl, rfl⟩)
        | fail)
      go_ret
      exact ⟨rfl, hK.grown⟩

end Go.Proofs.YtcfhgfelmofgjaaGreat.cacheReads
