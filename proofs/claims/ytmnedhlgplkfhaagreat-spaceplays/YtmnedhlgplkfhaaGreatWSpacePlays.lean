/- The walk of the law SpacePlays. Conditions: those that the theorem states. -/
import Derived.Test.YtmnedhlgplkfhaaGreatSBv
namespace Go.Proofs.YtmnedhlgplkfhaaGreat.spacePlays
open Go.RowKit
set_option linter.unusedVariables false

set_option maxRecDepth 100000 in
set_option maxHeartbeats 6400000 in
theorem walk (n0 : Int) (a : Option Addr) (len cap : Nat) (L : List Sop) (w : World) (hB : Sts Sop.cells 3 (fun o _ => o.ok) w.heap.size w (.slice a len cap) L) : Calls Tryz.prog 3 #[.int .i64 n0, .slice a len cap] w fun e w' => e = .returned (.bool true) ∧ w.grownBy w' none := by
  obtain ⟨L2, hL2, hL200, hlc, hcm, hcs'⟩ := sops_early hB
  have hea := searly_any a len cap
  rw [← hL2] at hea
  have HEA : Hid (∀ W : World, Calls Tryz.prog 10 #[.slice a len cap] W fun e w' => e = .returned (.slice a L2.length cap) ∧ w' = W) := fun W => hea W hlc hcm
  have HCS := hide hcs'
  clear hB hcs' hL2 hea
  have hnn := pagesN_le n0
  obtain ⟨n, HN⟩ : ∃ n, Hid (pagesN n0 = n) := ⟨_, rfl⟩
  rw [HN.out] at hnn
  have HPG : Hid (∀ w1 : World, Calls Tryz.prog 9 #[.int .i64 n0] w1 fun e w' => e = .returned (.int .i64 (n : Int)) ∧ w' = w1) := fun w1 => by
    have := spages_any n0 w1
    rw [HN.out] at this
    exact this
  have HBE : Hid (∀ w1 : World, Calls Tryz.prog 8 #[.int .i64 (n : Int)] w1 fun e w' => ∃ x own q r rr, e = .returned (.tuple #[.pointer (some ⟨x, 0, none⟩), .bool true]) ∧ Bp w' own x q w1.heap.size 1 0 (Sw.new (zeroP n)) (Sw.new (zeroP n)) (zeroP n) (zeroP n) r rr ∧ q.n = n ∧ Kp none' w1 w') := fun w1 => bbegin_any n w1 hnn.1 (by omega)
  go_enter Tryz.func3, Tryz.ntmps3
  go_wp2_with (first
    | (go_at_call 7; refine (slives_any _).mono ?_; rintro e w1 ⟨rfl, hk1⟩)
    | (go_at_call 9; refine (HPG.out _).mono ?_; rintro e w' ⟨rfl, hw'⟩; obtain rfl := hw'.symm)
    | (go_at_call 8; refine (HBE.out w1).mono ?_; rintro e w2 ⟨x, own, q, r, rr, rfl, hB2, hqn, hk2⟩)
    | (go_at_call 10; refine (HEA.out _).mono ?_; rintro e w' ⟨rfl, hw'⟩; obtain rfl := hw'.symm)
    | fail)
  have HB2 := hide hB2
  have hK2 := hk1.then hk2
  have hs1 := hk1.size
  obtain ⟨B, HBB⟩ : ∃ B, Hid (w1.heap.size = B) := ⟨_, rfl⟩
  rw [HBB.out] at HB2 hs1
  clear hB2 hk1 hk2 HEA HBE HPG
  go_loopw [7] (fun t wr => ∃ i : Nat, i ≤ L2.length ∧ t = .int .i64 i ∧ ∃ own S Q, Bp wr own x q B (1 + 2 * i) i S S Q Q r rr ∧ Kp none' w wr) (fun t _ => L2.length - (intOf t).toNat)
  case atStart => exact ⟨0, Nat.zero_le _, rfl, own, _, _, HB2.out, hK2⟩
  case round =>
    obtain ⟨i, hi, rfl, own, S, Q, hBr, hK⟩ := hrel
    clear HB2 hK2
    by_cases hlt : i < L2.length
    · have hii : (i : Int) < (L2.length : Int) := by omega
      obtain ⟨b, off, rfl, hbl, q0, q1, q2⟩ := HCS.out i hlt
      obtain ⟨o, HOO⟩ : ∃ o, Hid (L2[i] = o) := ⟨_, hide rfl⟩
      rw [HOO.out] at q0 q1 q2
      have kd : Kp none' wr wr.drew := Kp.drew none' wr
      have hBd := hBr.keep kd
      obtain ⟨od, HOD⟩ : ∃ od, Hid (grow own wr.heap.size 0 = od) := ⟨_, rfl⟩
      rw [HOD.out] at hBd
      have hod : od b = 0 := by
        rw [← HOD.out, grow_old (Nat.lt_of_lt_of_le (Nat.lt_of_lt_of_le hbl hs1) hBr.bw)]
        exact hBr.lo b (Nat.lt_of_lt_of_le hbl hs1)
      have e0 := (hK.then kd).cell q0 (fun h => h)
      have e1 := (hK.then kd).cell q1 (fun h => h)
      have e2 := (hK.then kd).cell q2 (fun h => h)
      have hst := bstep_any o hBd (by omega) (by omega)
      obtain ⟨S', HS'⟩ : ∃ S', Hid (S.does o = S') := ⟨_, rfl⟩
      obtain ⟨Q', HQ'⟩ : ∃ Q', Hid (S.doesQ o Q = Q') := ⟨_, rfl⟩
      rw [HS'.out, HQ'.out] at hst
      obtain ⟨k0, n1, b8⟩ := o
      unfold Sop.cells at hst
      dsimp only at hst q0 q1 q2 e0 e1 e2
      have HSTP := hide hst
      obtain ⟨U, HU⟩ : ∃ U, Hid (S'.usedN = U) := ⟨_, rfl⟩
      obtain ⟨X, HX⟩ : ∃ X, Hid (S'.head = X) := ⟨_, rfl⟩
      obtain ⟨l, HLL⟩ : ∃ l, Hid ((if S'.over then [] else chgK S'.base S'.now S'.now.length) = l) := ⟨_, rfl⟩
      have HUS : Hid (∀ W : World, Bx wr.drew od W x q B (1 + 2 * i + 1) (i + 1) S' S' Q' Q' r rr → Calls Tryz.prog 12 #[.pointer (some ⟨r, 0, none⟩)] W fun e w' => e = .returned (.int .i64 (U : Int)) ∧ w' = W) := fun W h => by
        have := h.used
        rw [HU.out] at this
        exact this
      have HRU : Hid (∀ W : World, Bx wr.drew od W x q B (1 + 2 * i + 1) (i + 1) S' S' Q' Q' r rr → Calls Tryz.prog 13 #[.pointer (some ⟨rr, 0, none⟩)] W fun e w' => e = .returned (.int .i64 (U : Int)) ∧ w' = W) := fun W h => by
        have := h.rused
        rw [HU.out] at this
        exact this
      have HHE : Hid (∀ W : World, Bx wr.drew od W x q B (1 + 2 * i + 1) (i + 1) S' S' Q' Q' r rr → Calls Tryz.prog 14 #[.pointer (some ⟨r, 0, none⟩)] W fun e w' => e = .returned (.string X) ∧ w' = W) := fun W h => by
        have := h.head
        rw [HX.out] at this
        exact this
      have HRH : Hid (∀ W : World, Bx wr.drew od W x q B (1 + 2 * i + 1) (i + 1) S' S' Q' Q' r rr → Calls Tryz.prog 15 #[.pointer (some ⟨rr, 0, none⟩)] W fun e w' => e = .returned (.string X) ∧ w' = W) := fun W h => by
        have := h.rhead
        rw [HX.out] at this
        exact this
      have HCH : Hid (∀ W : World, Bx wr.drew od W x q B (1 + 2 * i + 1) (i + 1) S' S' Q' Q' r rr → Calls Tryz.prog 17 #[.pointer (some ⟨r, 0, none⟩)] W fun e w' => ∃ v, e = .returned v ∧ Ow (Value.int .i64) 3 w' W.heap.size v l ∧ Bx wr.drew od w' x q B (1 + 2 * i + 1 + 1) (i + 1) S' S' Q' Q' r rr) := fun W h => by
        have := h.changed (by omega)
        rw [HLL.out] at this
        refine this.mono ?_
        rintro e w' ⟨v, rfl, c1, c2, _⟩
        exact ⟨v, rfl, c1, c2⟩
      have HRC : Hid (∀ W : World, Bx wr.drew od W x q B (1 + 2 * i + 1 + 1) (i + 1) S' S' Q' Q' r rr → Calls Tryz.prog 18 #[.pointer (some ⟨rr, 0, none⟩)] W fun e w' => ∃ v, e = .returned v ∧ Ow (Value.int .i64) 3 w' W.heap.size v l ∧ Bx wr.drew od w' x q B (1 + 2 * i + 1 + 1) (i + 1) S' S' Q' Q' r rr ∧ Kp none' W w') := fun W h => by
        have := h.rchanged
        rw [HLL.out] at this
        exact this
      have HSA : Hid (∀ (W : World) (v v' : Value) (c c' : Nat), Bx wr.drew od W x q B (1 + 2 * i + 1 + 1) (i + 1) S' S' Q' Q' r rr → Ow (Value.int .i64) 3 W c v l → Ow (Value.int .i64) 3 W c' v' l → Calls Tryz.prog 16 #[v, v'] W fun e w' => e = .returned (.bool true) ∧ Bx wr.drew od w' x q B (1 + 2 * i + 1 + 1) (i + 1) S' S' Q' Q' r rr) := fun W v v' c c' h h1 h2 => by
        have hl := chg_len S' h.l160
        rw [HLL.out] at hl
        refine (sameInts_sl v v' l _ _ W h1.sl h2.sl hl).mono ?_
        rintro e w' ⟨rfl, hk⟩
        exact ⟨rfl, h.keep hk⟩
      have HT : Hid (∀ (W : World) (tW tR : Nat) (SW SR : Sw) (QC QP : List ByteArray), Bx wr.drew od W x q B tW tR SW SR QC QP r rr → (W.cell? ⟨x, 1, none⟩ = some (.pointer (some ⟨r, 0, none⟩)) ∧ W.cell? ⟨x, 3, none⟩ = some (.pointer (some ⟨rr, 0, none⟩))) ∧ W.cell? ⟨b, off + i * 3, none⟩ = some (.int .i64 k0) ∧ W.cell? ⟨b, off + i * 3 + 1, none⟩ = some (.int .i64 n1) ∧ W.cell? ⟨b, off + i * 3 + 2, none⟩ = some (.int .u8 (b8.toNat : Int))) := fun W _ _ _ _ _ _ h => ⟨⟨h.cells.2.1, h.cells.2.2⟩, h.stay hod e0, h.stay hod e1, h.stay hod e2⟩
      have T0 := HT.out wr.drew _ _ _ _ _ _ (Bx.refl hBd)
      have HLO : Hid (∀ W : World, Bx wr.drew od W x q B (1 + 2 * i + 1 + 1) (i + 1) S' S' Q' Q' r rr → ∃ own S Q, Bp W own x q B (1 + 2 * (i + 1)) (i + 1) S S Q Q r rr ∧ Kp none' w W) := fun W h => by
        have hlow := h.low (fun k hk => hBd.lo k hk) w (hK.then kd) hs1
        obtain ⟨o', p1, _, _⟩ := h
        exact ⟨o', S', Q', p1, hlow⟩
      have hUU : ((U : Int) != (U : Int)) = false := by simp
      have hUU2 : ((U : Int) == (U : Int)) = true := by simp
      have hXX : (X.toList == X.toList) = true := by simp
      have hXX2 : (X.toList != X.toList) = false := by simp
      clear hst hBr hBd hK q0 q1 q2 e0 e1 e2
      go_upto_region 10 with fail
      go_region_held_law (fun W => (W.cell? ⟨x, 1, none⟩ = some (.pointer (some ⟨r, 0, none⟩)) ∧ W.cell? ⟨x, 3, none⟩ = some (.pointer (some ⟨rr, 0, none⟩))) ∧ W.cell? ⟨b, off + i * 3, none⟩ = some (.int .i64 k0) ∧ W.cell? ⟨b, off + i * 3 + 1, none⟩ = some (.int .i64 n1) ∧ W.cell? ⟨b, off + i * 3 + 2, none⟩ = some (.int .u8 (b8.toNat : Int))) (first | assumption) (first
        | (go_at_call 11; refine HSTP.out.mono ?_; rintro e w3 ⟨rfl, hB3⟩; have T3 := HT.out w3 _ _ _ _ _ _ hB3)
        | (go_at_call 12; refine (HUS.out _ hB3).mono ?_; rintro e w' ⟨rfl, hw'⟩; obtain rfl := hw'.symm)
        | (go_at_call 13; refine (HRU.out _ hB3).mono ?_; rintro e w' ⟨rfl, hw'⟩; obtain rfl := hw'.symm)
        | (go_at_call 14; refine (HHE.out _ hB3).mono ?_; rintro e w' ⟨rfl, hw'⟩; obtain rfl := hw'.symm)
        | (go_at_call 15; refine (HRH.out _ hB3).mono ?_; rintro e w' ⟨rfl, hw'⟩; obtain rfl := hw'.symm)
        | (go_at_call 17; refine (HCH.out _ hB3).mono ?_; rintro e w4 ⟨v4, rfl, hO4, hB4⟩; have T4 := HT.out w4 _ _ _ _ _ _ hB4; have HO4 := hide hO4; obtain ⟨a4, c4, rfl, _⟩ := hO4.open; clear hO4)
        | (go_at_call 18; refine (HRC.out _ hB4).mono ?_; rintro e w5 ⟨v5, rfl, hO5, hB5, hk5⟩; have T5 := HT.out w5 _ _ _ _ _ _ hB5; have HO5 := hide hO5; obtain ⟨a5, c5, rfl, _⟩ := hO5.open; clear hO5)
        | (go_at_call 16; refine (HSA.out w5 _ _ _ _ hB5 (HO4.out.keptN hk5) HO5.out).mono ?_; rintro e w6 ⟨rfl, hB6⟩; have T6 := HT.out w6 _ _ _ _ _ _ hB6)
        | fail)
      all_goals (
        have HB6 := hide (HLO.out _ hB6)
        clear hB3 hB4 hB5 hB6 HO4 HO5
        go_wp2
        go_roundw
        case rel => exact ⟨i + 1, by omega, by go_num, HB6.out⟩
        case measure => simp [intOf]; omega)
    · have hil : i = L2.length := by omega
      have HBr := hide hBr
      have hiL : ¬ (i : Int) < (L2.length : Int) := by omega
      have hi200 : i ≤ 200 := by omega
      clear hil
      go_wp2
      go_loopw [8] (fun t wr => ∃ j : Nat, j ≤ Q.length ∧ t = .int .i64 j ∧ ∃ own, Bp wr own x q B (1 + 2 * i + j) i S S Q Q r rr ∧ Kp none' w wr) (fun t _ => Q.length - (intOf t).toNat)
      case atStart => exact ⟨0, Nat.zero_le _, rfl, own, HBr.out, hK⟩
      case round =>
        obtain ⟨j, hj, rfl, own, hBj, hKj⟩ := hrel
        clear HBr hK
        have hQ160 : Q.length ≤ 160 := by have := hBj.n; omega
        obtain ⟨rp, la, lc, x2, l0, hl⟩ := (Bx.refl hBj).pages
        by_cases hlt2 : j < Q.length
        · have hji : (j : Int) < (Q.length : Int) := by omega
          have hrd := (Bx.refl hBj).cread (by omega) j hlt2
          have x0 := hBj.x0
          have HRD : Hid (Calls Tryz.prog 19 #[.pointer (some ⟨q.c, 0, none⟩), .int .i64 (j : Int)] wr fun e w' => e = .returned (.tuple #[.string Q[j], .int .i64 0]) ∧ ∃ own', Bp w' own' x q B (1 + 2 * i + (j + 1)) i S S Q Q r rr ∧ Kp none' w w' ∧ ∃ rp la lc, w'.cell? ⟨x, 2, none⟩ = some (.pointer (some ⟨rp, 0, none⟩)) ∧ w'.cell? ⟨rp, 0, none⟩ = some (.slice la Q.length lc) ∧ ∃ b off, la = some ⟨b, off, none⟩ ∧ w'.cell? ⟨b, off + j, none⟩ = some (.string Q[j])) := by
            refine hrd.mono ?_
            rintro e w' ⟨rfl, hBx⟩
            have hlow := hBx.low (fun k hk => hBj.lo k hk) w hKj hs1
            obtain ⟨rp, la, lc, y2, m0, hl⟩ := hBx.pages
            obtain ⟨o', p1, _, _⟩ := hBx
            exact ⟨rfl, o', p1, hlow, rp, la, lc, y2, m0, hl j hlt2⟩
          obtain ⟨X, HX⟩ : ∃ X, Hid (Q[j] = X) := ⟨_, hide rfl⟩
          rw [HX.out] at HRD
          obtain ⟨lq, HLQ⟩ : ∃ lq, Hid (Q.length = lq) := ⟨_, rfl⟩
          rw [HLQ.out] at l0 hji HRD
          have hXX : (X.toList == X.toList) = true := by simp
          have hXX2 : (X.toList != X.toList) = false := by simp
          clear hl hrd hBj hKj
          go_wp2_with (first
            | (go_at_call 19; refine HRD.out.mono ?_; rintro e w3 ⟨rfl, own3, hB3, hK3, rp3, la3, lc3, y2, m0, b3, off3, rfl, m1⟩)
            | fail)
          go_roundw
          case rel => exact ⟨j + 1, by omega, by go_num, own3, hB3, hK3⟩
          case measure => simp [intOf]; omega
        · have hji : ¬ (j : Int) < (Q.length : Int) := by omega
          obtain ⟨lq, HLQ⟩ : ∃ lq, Hid (Q.length = lq) := ⟨_, rfl⟩
          rw [HLQ.out] at l0 hji
          have HKJ := hide hKj
          clear hl hBj hKj
          go_wp2
          go_ret
          exact ⟨rfl, HKJ.out.grown⟩

end Go.Proofs.YtmnedhlgplkfhaaGreat.spacePlays
