/- The walk of the law CacheKeeps. Conditions: those that the theorem states. -/
import Derived.Test.YtcfhgfelmofgjaaGreatCKi
import Derived.Test.YtcfhgfelmofgjaaGreatCOpen
namespace Go.Proofs.YtcfhgfelmofgjaaGreat.cacheKeeps
open Go.RowKit
set_option linter.unusedVariables false

set_option maxRecDepth 100000 in
set_option maxHeartbeats 6400000 in
theorem walk (n0 z0 : Int) (a : Option Addr) (len cap : Nat) (L : List Cop) (w : World) (hB : Sts Cop.cells 3 (fun o _ => o.ok) w.heap.size w (.slice a len cap) L) : Calls Tryz.prog 4 #[.int .i64 n0, .int .i64 z0, .slice a len cap] w fun e w' => e = .returned (.bool true) ∧ w.grownBy w' none := by
  obtain ⟨hlen, hcap, hcm⟩ : len = L.length ∧ L.length ≤ cap ∧ cap ≤ maxLen := by
    obtain ⟨a', c', h0, h1, h2, _⟩ := hB
    cases h0
    exact ⟨rfl, h1, h2⟩
  have hT := hB.take (min len 300) (by omega)
  have hTn : (L.take (min len 300)).length = min len 300 := by rw [List.length_take]; omega
  have hea := cearly_any a len cap
  clear hB
  obtain ⟨L2, HL2⟩ : ∃ L2, Hid (L.take (min len 300) = L2) := ⟨_, rfl⟩
  rw [HL2.out] at hT hTn
  have hL30 : L2.length ≤ 300 := by omega
  rw [← hTn] at hT hea
  have hcl : len ≤ cap := by omega
  clear hTn hlen hcap
  obtain ⟨a', c', h0, _, _, hcs'⟩ := hT
  cases h0
  have hcs := hide hcs'
  clear hcs'
  have hnn := pgN_le n0
  obtain ⟨n, HN⟩ : ∃ n, Hid (pgN n0 = n) := ⟨_, rfl⟩
  rw [HN.out] at hnn
  go_enter Tryz.func4, Tryz.ntmps4
  go_upto_region 4 with (first
    | (go_at_call 6; refine (clives_any _).mono ?_; rintro e w1 ⟨rfl, hk1⟩)
    | fail)
  have HNW := pgN_wrap n0
  rw [HN.out] at HNW
  rw [HNW.out]
  have HOP := fun W => hide (opened_any n W hnn.1 (by omega))
  go_upto_region 6 with (first
    | (go_at_call 14; refine (rcnew_any z0 w3).mono ?_; rintro e w4 ⟨r, rfl, hr4, hR4, hk4⟩)
    | (go_at_call 7; refine (hea _ hcl hcm).mono ?_; rintro e w' ⟨rfl, rfl⟩)
    | (go_at_call 9; refine (HOP _).out.mono ?_; rintro e w2 ⟨p, D, g, rfl, hR2, hst, hP2, hg2, hm2, hk2⟩)
    | (go_at_call 8; refine (cnew_any z0 hR2 hst hP2 (by omega) (fun _ => fillB_size 0)).mono ?_; rintro e w3 ⟨q, rfl, hqn, hqs, _, _, hC3, hk3⟩)
    | fail)
  have hK3 := (hk1.then hk2).then hk3
  have hKI : Ki w w4 q r 0 := by
    have hC' : Cas w3 q (fun k => w.heap.size ≤ k ∧ k < w3.heap.size) D (fun _ => fillB 0) 0 0 [] 0 0 := hC3.mono (fun k hk h => ⟨by
      rcases h with h | h | h
      · exact Nat.le_trans hk1.size (hm2 k h)
      · rw [h]; exact Nat.le_trans hk1.size hg2
      · exact Nat.le_trans (hk1.then hk2).size h, hk⟩)
    have hz : q.sz ≤ 64 := by rw [hqs]; unfold szN; omega
    have hs3 := hK3.size
    rw [← hqs] at hR4
    exact ⟨⟨D, _, 0, ⟨[], 0, 0⟩, _, _, hC'.keptN hk4, hR4, Int.le_refl _, by omega, Nat.le_refl _, by simp, Nat.zero_le _, fun k hk => ⟨hk.1, by omega, by omega⟩, fun k hk => by omega⟩, by omega, hz, hK3.then hk4⟩
  clear hC3 hR2 hP2 hm2 hk1 hk2 hk3 hk4 hea HOP hR4
  go_wp2
  go_loopw [9] (fun t wr => ∃ j : Nat, j ≤ L2.length ∧ t = .int .i64 j ∧ Ki w wr q r j) (fun t _ => L2.length - (intOf t).toNat)
  case atStart => exact ⟨0, Nat.zero_le _, rfl, hKI⟩
  case round =>
    obtain ⟨j, hj, rfl, hI⟩ := hrel
    clear hKI
    by_cases hlt : j < L2.length
    · have hji : (j : Int) < (L2.length : Int) := by omega
      have hK := hI.kp
      obtain ⟨b, off, rfl, hbl, hra, hoo⟩ := hcs.out j hlt
      obtain ⟨o, HOo⟩ : ∃ o, Hid (L2[j] = o) := ⟨_, hide rfl⟩
      rw [HOo.out] at hra hoo
      obtain ⟨z, b8, wt⟩ := o
      have d0 : wr.cell? ⟨b, off + j * 3 + 0, none⟩ = some (.int .i64 z) := hK.cell (hra 0 _ rfl) (fun h => h)
      have d1 : wr.cell? ⟨b, off + j * 3 + 1, none⟩ = some (.int .u8 (b8.toNat : Int)) := hK.cell (hra 1 _ rfl) (fun h => h)
      have d2 : wr.cell? ⟨b, off + j * 3 + 2, none⟩ = some (.bool wt) := hK.cell (hra 2 _ rfl) (fun h => h)
      rw [Nat.add_zero] at d0
      have hz64 : -9223372036854775808 ≤ z ∧ z < 9223372036854775808 := hoo
      clear hra hoo
      have k5 := Kp.alloc none' wr (.cells #[.int .i64 z, .int .u8 (b8.toNat : Int), .bool wt] 32)
      have v0 := new_cell wr #[.int .i64 z, .int .u8 (b8.toNat : Int), .bool wt] 32 0 _ rfl
      have v1 := new_cell wr #[.int .i64 z, .int .u8 (b8.toNat : Int), .bool wt] 32 1 _ rfl
      have v2 := new_cell wr #[.int .i64 z, .int .u8 (b8.toNat : Int), .bool wt] 32 2 _ rfl
      have s5 : (wr.alloc (.cells #[.int .i64 z, .int .u8 (b8.toNat : Int), .bool wt] 32)).heap.size = wr.heap.size + 1 := by simp
      have hgv : ∀ k, k < wr.heap.size ∧ w.heap.size ≤ k → k ≠ wr.heap.size := fun k h => by omega
      go_upto_region 10 with fail
      obtain ⟨gv, HV⟩ : ∃ gv, Hid (wr.heap.size = gv) := ⟨_, rfl⟩
      rw [HV.out] at v0 v1 v2 s5 hgv ⊢
      obtain ⟨W5, H5⟩ : ∃ W5, Hid (wr.alloc (.cells #[.int .i64 z, .int .u8 (b8.toNat : Int), .bool wt] 32) = W5) := ⟨_, rfl⟩
      rw [H5.out] at k5 v0 v1 v2 s5 ⊢
      clear d0 d1 d2
      have HI := hide hI
      clear hI hK
      go_upto_if 39 with fail
      go_cut [11, 12] from 28 to 87 (fun t11 t12 W => Ki w W q r (j + 1))
      case rest =>
        clear v0 v1 v2
        obtain ⟨D', Q', cm', s, F, G, hC, hR, _, _, _, _, hsl, _, _⟩ := hcut.ex
        have HC := hide (Cas.keptN hC (Kp.drew none' wc))
        have hRd := hR.kept (Kp.drew none' wc) (fun h => h) (fun _ _ h => h)
        have y2 := hRd.c2
        have y3 := hRd.c3
        obtain ⟨ka, kc, y1, hkp⟩ := hRd.c1
        have hhh : ((s.h : Int) != (s.h : Int)) = false := by simp
        have hmm : ((s.m : Int) != (s.m : Int)) = false := by simp
        have HKP := hide hkp
        have HL64 : Hid (s.K.length ≤ 1000000) := by show _ ≤ _; have := hcut.hz; omega
        have HCUT := hide hcut
        clear hC hR hRd hkp hcut HI
        obtain ⟨kl, HKL⟩ : ∃ kl, Hid (s.K.length = kl) := ⟨_, rfl⟩
        rw [HKL.out] at y1 HKP
        go_upto_region 15 with fail
        go_cut [87] from 28 to 87 (fun t W => t = .bool false ∧ Kp none' wc W)
        case rest =>
          obtain ⟨rfl, hkc⟩ := hcut
          clear y1 y2 y3
          go_wp2
          go_roundw
          case rel => exact ⟨j + 1, by omega, by go_num, HCUT.out.keptN hkc⟩
          case measure => simp [intOf]; omega
        case first =>
          have t0 : wc.drew.cell? ⟨r, 1, none⟩ = some (.slice ka kl kc) ∧ wc.drew.cell? ⟨r, 2, none⟩ = some (.int .i64 (s.h : Int)) ∧ wc.drew.cell? ⟨r, 3, none⟩ = some (.int .i64 (s.m : Int)) := ⟨y1, y2, y3⟩
          go_region_held_law (fun W => W.cell? ⟨r, 1, none⟩ = some (.slice ka kl kc) ∧ W.cell? ⟨r, 2, none⟩ = some (.int .i64 (s.h : Int)) ∧ W.cell? ⟨r, 3, none⟩ = some (.int .i64 (s.m : Int))) (first | assumption) (first
            | (go_at_call 16; refine (chits_any HC.out).mono ?_; rintro e w6 ⟨rfl, rfl⟩)
            | (go_at_call 17; refine (cmisses_any HC.out).mono ?_; rintro e w6 ⟨rfl, rfl⟩)
            | (go_at_call 19; refine (ckept_any HC.out).mono ?_; rintro e w7 ⟨v7, rfl, hO7, hk7⟩; obtain ⟨a7, c7, rfl, _⟩ := hO7.open; have HO7 := hide hO7; have HK7 := hide hk7; have T7 : w7.cell? ⟨r, 1, none⟩ = some (.slice ka kl kc) ∧ w7.cell? ⟨r, 2, none⟩ = some (.int .i64 (s.h : Int)) ∧ w7.cell? ⟨r, 3, none⟩ = some (.int .i64 (s.m : Int)) := ⟨hk7.cell t0.1 (fun h => h), hk7.cell t0.2.1 (fun h => h), hk7.cell t0.2.2 (fun h => h)⟩; clear hO7 hk7; rw [HKL.out] at HO7; rw [HKL.out])
            | (go_at_call 18; refine (sameInts_sl _ _ s.K _ _ _ HO7.out.sl (HKP.out.kept HK7.out (fun _ _ h => h)).sl HL64.out).mono ?_; rintro e w8 ⟨rfl, hk8⟩; have T8 : w8.cell? ⟨r, 1, none⟩ = some (.slice ka kl kc) ∧ w8.cell? ⟨r, 2, none⟩ = some (.int .i64 (s.h : Int)) ∧ w8.cell? ⟨r, 3, none⟩ = some (.int .i64 (s.m : Int)) := ⟨hk8.cell T7.1 (fun h => h), hk8.cell T7.2.1 (fun h => h), hk8.cell T7.2.2 (fun h => h)⟩)
            | fail)
          all_goals (
            go_wp2
            go_meet
            case rel => exact ⟨rfl, ((Kp.drew none' wc).then HK7.out).then hk8⟩)
      case first =>
        cases wt with
        | true =>
          have t0 : W5.drew.cell? ⟨gv, 0, none⟩ = some (.int .i64 z) ∧ W5.drew.cell? ⟨gv, 1, none⟩ = some (.int .u8 (b8.toNat : Int)) := ⟨v0, v1⟩
          have kA : ∀ (W : World) (o : Obj), (W.cell? ⟨gv, 0, none⟩ = some (.int .i64 z) ∧ W.cell? ⟨gv, 1, none⟩ = some (.int .u8 (b8.toNat : Int))) → ((W.alloc o).cell? ⟨gv, 0, none⟩ = some (.int .i64 z) ∧ (W.alloc o).cell? ⟨gv, 1, none⟩ = some (.int .u8 (b8.toNat : Int))) := fun W o h => ⟨(Kp.alloc none' W o).cell h.1 (fun h => h), (Kp.alloc none' W o).cell h.2 (fun h => h)⟩
          obtain ⟨X, HX⟩ : ∃ X, Hid (fillB b8 = X) := ⟨_, rfl⟩
          have hXs : X.size = 256 := by rw [← HX.out]; exact fillB_size _
          have hfi := cfill_any b8 W5.drew
          rw [HX.out] at hfi
          obtain ⟨E, HE⟩ : ∃ E, Hid (rdCE q.n z = E) := ⟨_, rfl⟩
          have HCO : Hid (∀ w6 : World, Kp none' W5.drew w6 → Calls Tryz.prog 10 #[.pointer (some ⟨q.c, 0, none⟩), .slice (some ⟨w6.heap.size, 0, none⟩) 1 1] (w6.alloc (.cells #[.int .i64 z, .string X] 37)) fun e w' => e = .returned (.int .i64 E) ∧ Ki w w' q r (j + 1) ∧ Kp (fun k => k < wr.heap.size ∧ w.heap.size ≤ k) (w6.alloc (.cells #[.int .i64 z, .string X] 37)) w') := fun w6 hk6 => by
            have h6 := k5.then ((Kp.drew none' W5).then (hk6.then (Kp.alloc none' w6 (.cells #[.int .i64 z, .string X] 37))))
            have := ki_commit (B := w6.heap.size) (z := z) (X := X) HI.out (by omega) h6 (new_cell _ _ _ 0 _ rfl) (new_cell _ _ _ 1 _ rfl) (by have := (k5.then ((Kp.drew none' W5).then hk6)).size; omega) hz64 hXs
            rw [HE.out] at this
            exact this
          have HT7 : Hid (∀ w6 w7 : World, Kp none' W5.drew w6 → Kp (fun k => k < wr.heap.size ∧ w.heap.size ≤ k) (w6.alloc (.cells #[.int .i64 z, .string X] 37)) w7 → w7.cell? ⟨gv, 0, none⟩ = some (.int .i64 z) ∧ w7.cell? ⟨gv, 1, none⟩ = some (.int .u8 (b8.toNat : Int))) := fun w6 w7 hk6 hk7 => by
            have ka := Kp.alloc none' w6 (.cells #[.int .i64 z, .string X] 37)
            exact ⟨hk7.cell (ka.cell (hk6.cell t0.1 (fun h => h)) (fun h => h)) (fun h => absurd h.1 (by have := HV.out; omega)), hk7.cell (ka.cell (hk6.cell t0.2 (fun h => h)) (fun h => h)) (fun h => absurd h.1 (by have := HV.out; omega))⟩
          go_wp2
          go_region_held_law (fun W => W.cell? ⟨gv, 0, none⟩ = some (.int .i64 z) ∧ W.cell? ⟨gv, 1, none⟩ = some (.int .u8 (b8.toNat : Int))) (first | assumption | exact kA _ _ (by assumption)) (first
            | (go_at_call 11; refine hfi.mono ?_; rintro e w6 ⟨rfl, hk6⟩; have T6 : w6.cell? ⟨gv, 0, none⟩ = some (.int .i64 z) ∧ w6.cell? ⟨gv, 1, none⟩ = some (.int .u8 (b8.toNat : Int)) := ⟨hk6.cell t0.1 (fun h => h), hk6.cell t0.2 (fun h => h)⟩)
            | (go_at_call 10; refine (HCO.out w6 hk6).mono ?_; rintro e w7 ⟨rfl, hI7, hk7⟩; have T7 : w7.cell? ⟨gv, 0, none⟩ = some (.int .i64 z) ∧ w7.cell? ⟨gv, 1, none⟩ = some (.int .u8 (b8.toNat : Int)) := HT7.out w6 w7 hk6 hk7)
            | fail)
          go_wp2
          go_meet
          case rel => exact hI7
        | false =>
          by_cases hin : inR q.n z = true
          · have hrd := hide (ki_read (z := z) HI.out (by omega) k5 hin)
            have HX0 : Hid (∀ w7, Kp (fun k => k < wr.heap.size ∧ w.heap.size ≤ k) W5 w7 → w7.cell? ⟨gv, 0, none⟩ = some (.int .i64 z)) := fun w7 hk7 => hk7.cell v0 (fun h => absurd h.1 (by have := HV.out; omega))
            go_wp2_with (first
              | (go_at_call 12; refine hrd.out.mono ?_; rintro e w7 ⟨⟨X, rfl⟩, hk7, hus⟩; have y0 := HX0.out w7 hk7)
              | (go_at_call 15; refine hus.out.mono ?_; rintro e w8 ⟨rfl, hI8⟩)
              | fail)
            go_meet
            case rel => exact hI8
          · have hrd := hide (ki_none (z := z) HI.out (by omega) k5 hin)
            go_wp2_with (first
              | (go_at_call 12; refine hrd.out.mono ?_; rintro e w7 ⟨rfl, hI7, hk7⟩)
              | fail)
            go_meet
            case rel => exact hI7
    · obtain rfl : j = L2.length := by omega
      go_wp2
      go_ret
      exact ⟨rfl, hI.kp.grown⟩

end Go.Proofs.YtcfhgfelmofgjaaGreat.cacheKeeps
