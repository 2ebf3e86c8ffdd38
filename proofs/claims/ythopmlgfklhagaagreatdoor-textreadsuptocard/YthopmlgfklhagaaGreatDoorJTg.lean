/- Contracts, over the turned program: what a word is read as, a number, an Op; how many words an Op's line has. Conditions: those that each theorem states. -/
import Derived.Test.YthopmlgfklhagaaGreatDoorJTf
import Derived.Test.YthopmlgfklhagaaGreatDoorJWf
namespace Go.Proofs.YthopmlgfklhagaaGreatDoor
open Go.RowKit
set_option linter.unusedVariables false

/-- A number that is read of a word: of a number's own word that one. -/
def NumE (s : List UInt8) (z : Int) : Prop := -9223372036854775808 ≤ z ∧ z < 9223372036854775808 ∧ ∀ y : Int, -9223372036854775808 ≤ y → y < 9223372036854775808 → s = Lib.itoa y → z = y
def ParE (s : List UInt8) (e : Ending) : Prop := ∃ z ev, e = .returned (.tuple #[.int .i64 z, ev]) ∧ NumE s z
theorem parse_bounds (s : List UInt8) (v : Int) (h : Lib.parseIntB 64 s = .ok v) : -9223372036854775808 ≤ v ∧ v < 9223372036854775808 := by
  unfold Lib.parseIntB at h
  split at h
  · cases h
  · dsimp only at h
    split at h
    · cases h
    · cases h
    · next u hu =>
      have e : (2 : Nat) ^ (64 - 1) = 9223372036854775808 := by decide
      rw [e] at h
      split at h
      · cases h
      · next h1 =>
        split at h
        · cases h
        · next h2 =>
          injection h with h
          subst h
          split <;> omega
theorem sat_bounds (s : List UInt8) : -9223372036854775808 ≤ Lib.intSat 64 s ∧ Lib.intSat 64 s < 9223372036854775808 := by
  unfold Lib.intSat
  split
  · exact ⟨by decide, by decide⟩
  · exact ⟨by decide, by decide⟩
theorem rparse_any (s : ByteArray) (w : World) (hs : s.size ≤ 1099511627776) (hG : G14 w) :
    Calls Tryz.prog 46 #[.string s, .int .i64 10, .int .i64 64] w fun e w' => ParE s.data.toList e ∧ w.grownBy w' none := by
  cases hp : Lib.parseIntB 64 s.data.toList with
  | ok v =>
    refine (strconv_ParseInt_10_at64_ok s (by omega) v hp w).mono ?_
    rintro e w' ⟨he, hw⟩
    refine ⟨⟨v, _, he, (parse_bounds _ _ hp).1, (parse_bounds _ _ hp).2, fun y h0 h1 hy => ?_⟩, ?_⟩
    · rw [hy, parse_itoa y h0 h1] at hp
      injection hp with hp
      exact hp.symm
    · rcases hw with rfl | ⟨t, rfl⟩
      · exact World.grownBy.refl _ _
      · exact Below.grownN (Lib.bytesWorld_below _ _ _)
  | «syntax» =>
    obtain ⟨ev, h1, h2⟩ := hG.es
    refine (strconv_ParseInt_10_at64_syntax s (by omega) hp ev w h1 h2).mono ?_
    rintro e w' ⟨N, he, _, _, hb⟩
    exact ⟨⟨0, _, he, by omega, by omega, fun y h0 h1 hy => by rw [hy, parse_itoa y h0 h1] at hp; cases hp⟩, Below.grownN hb⟩
  | range =>
    obtain ⟨ev, h1, h2⟩ := hG.er
    refine (strconv_ParseInt_10_at64_range s (by omega) hp ev w h1 h2).mono ?_
    rintro e w' ⟨N, he, _, _, hb⟩
    exact ⟨⟨_, _, he, (sat_bounds _).1, (sat_bounds _).2, fun y h0 h1 hy => by rw [hy, parse_itoa y h0 h1] at hp; cases hp⟩, Below.grownN hb⟩

set_option maxRecDepth 100000 in
theorem numberOf_any (s : ByteArray) (w : World) (hs : s.size ≤ 1099511627776) (hG : G14 w) :
    Calls Tryz.prog 25 #[.string s] w fun e w' => (∃ z, e = .returned (.int .i64 z) ∧ NumE s.data.toList z) ∧ w.grownBy w' none := by
  have Hp := hide (rparse_any s w hs hG)
  clear hs hG
  go_enter Tryz.func25, Tryz.ntmps25
  go_wp2_with (go_at_call 46; refine (Hp.out).mono ?_; rintro e w' ⟨⟨z, ev, rfl, hz⟩, hg⟩; have Hz := hide hz; clear hz)
  go_ret
  exact ⟨⟨z, rfl, Hz.out⟩, hg⟩

/-- How many words an Op's line has. -/
def szW (op : Int) : Int := if opOk op then (wantW op : Int) else 0
set_option maxRecDepth 100000 in
theorem size_any (op : Int) (w : World) (hG : G14 w) :
    Calls Tryz.prog 23 #[.int .i64 op] w fun e w' => e = .returned (.int .i64 (szW op)) ∧ w' = w := by
  have ho := operands_any op w hG.op
  obtain ⟨S, HS⟩ : ∃ S, Hid (szW op = S) := ⟨_, rfl⟩
  rw [HS.out]
  have hn := nOps_le op
  obtain ⟨nn, HN⟩ : ∃ nn : Nat, Hid (nOps op = nn) := ⟨_, rfl⟩
  rw [HN.out] at hn
  by_cases hk : opOk op = true
  · have hnI : nOpI op = (nn : Int) := by unfold nOpI; rw [hk, if_pos rfl, HN.out]
    rw [hk, hnI] at ho
    have Ho := hide ho
    by_cases h1 : op = 1
    · have Hv : Hid (S = 1 + (nn : Int) + 1) := by
        show _ = _
        rw [← HS.out]; unfold szW wantW; rw [hk, if_pos rfl, if_pos h1, HN.out]; omega
      have h1' : (op == 1) = true := by simp [h1]
      clear hk hnI h1 ho hG
      go_enter Tryz.func23, Tryz.ntmps23
      go_wp2_with (go_at_call 24; refine (Ho.out).mono ?_; rintro e w1 ⟨rfl, rfl⟩)
      go_ret
      rw [Hv.out]
      exact ⟨by first | rfl | (unfold wrap64; congr 2; omega), rfl⟩
    · have Hv : Hid (S = 1 + (nn : Int)) := by
        show _ = _
        rw [← HS.out]; unfold szW wantW; rw [hk, if_pos rfl, if_neg h1, HN.out]; omega
      have h1' : (op == 1) = false := by simp [h1]
      clear hk hnI h1 ho hG
      go_enter Tryz.func23, Tryz.ntmps23
      go_wp2_with (go_at_call 24; refine (Ho.out).mono ?_; rintro e w1 ⟨rfl, rfl⟩)
      go_ret
      rw [Hv.out]
      exact ⟨by first | rfl | (unfold wrap64; congr 2; omega), rfl⟩
  · have hk' : opOk op = false := by simpa using hk
    have Hv : Hid (S = 0) := by show _ = _; rw [← HS.out]; unfold szW; rw [hk']; rfl
    rw [hk'] at ho
    have Ho := hide ho
    clear hk hk' ho hG
    go_enter Tryz.func23, Tryz.ntmps23
    go_wp2_with (go_at_call 24; refine (Ho.out).mono ?_; rintro e w1 ⟨rfl, rfl⟩)
    go_ret
    rw [Hv.out]
    exact ⟨rfl, rfl⟩

theorem opU_hit (k : Nat) (h : k < 20) : opU (nmT.getD k []) = (k : Int) := by
  have key : ∀ k : Nat, k < 20 → opU (nmT.getD k []) = (k : Int) := by decide
  exact key k h
theorem opU_miss (s : List UInt8) (h : ∀ j : Nat, j < 20 → nmT.getD j [] ≠ s) : opU s = 0 := by
  unfold opU
  split
  · next hi =>
    exfalso
    refine h (nmL.idxOf s + 1) (by omega) ?_
    show nmL.getD (nmL.idxOf s) [] = s
    rw [List.getD_eq_getElem?_getD, List.getElem?_eq_getElem (by show _ < 19; exact hi)]
    exact List.getElem_idxOf (by show _ < 19; exact hi)
  · rfl
theorem nmV_at (k : Nat) (h : k < 20) : nmV[k]? = some (.string (mkB (nmT.getD k []))) := by
  have hl : nmT.length = 20 := rfl
  unfold nmV
  rw [List.getElem?_toArray, List.getElem?_map, List.getElem?_eq_getElem (by omega), List.getD_eq_getElem?_getD, List.getElem?_eq_getElem (by omega)]
  rfl

theorem run_idxN (k : Nat) (h : k < 20) (w : World) : (Instr.index 48 (.agg nmV) (.int .i64 (k : Int))).run Tryz.prog w = .ok (.string (mkB (nmT.getD k []))) w := by
  rcases (by omega : k = 0 ∨ k = 1 ∨ k = 2 ∨ k = 3 ∨ k = 4 ∨ k = 5 ∨ k = 6 ∨ k = 7 ∨ k = 8 ∨ k = 9 ∨ k = 10 ∨ k = 11 ∨ k = 12 ∨ k = 13 ∨ k = 14 ∨ k = 15 ∨ k = 16 ∨ k = 17 ∨ k = 18 ∨ k = 19) with rfl | rfl | rfl | rfl | rfl | rfl | rfl | rfl | rfl | rfl | rfl | rfl | rfl | rfl | rfl | rfl | rfl | rfl | rfl | rfl <;> kernel_rfl
theorem bytes_eq (a b : ByteArray) : (a.toList == b.toList) = decide (a = b) := by
  rw [Bool.eq_iff_iff, beq_iff_eq, decide_eq_true_iff, ByteArray.toList_eq, ByteArray.toList_eq]
  exact ⟨fun h => ByteArray.ext (Array.toList_inj.1 h), fun h => by rw [h]⟩

set_option maxRecDepth 100000 in
set_option maxHeartbeats 1000000 in
theorem opOf_any (s : ByteArray) (w : World) (hG : G14 w) :
    Calls Tryz.prog 22 #[.string s] w fun e w' => e = .returned (.int .i64 (opU s.data.toList)) ∧ w' = w := by
  obtain ⟨t, fr, hrow⟩ := hG.row
  have hidx : ∀ k : Nat, k < 20 → (Instr.index 48 (.agg nmV) (.int .i64 (k : Int))).run Tryz.prog w = .ok (.string (mkB (nmT.getD k []))) w := fun k h => run_idxN k h w
  have hsz : (Tryz.prog.info? 48).map (·.size) = some nmV.size := by kernel_rfl
  have Hidx := hide hidx
  obtain ⟨R, HR⟩ : ∃ R, Hid (opU s.data.toList = R) := ⟨_, rfl⟩
  rw [HR.out]
  generalize nmV = A at *
  clear hidx hG
  go_enter Tryz.func22, Tryz.ntmps22
  go_wp2_with (refine wpList_load_row rfl 48 _ rfl 0 rfl t A fr _ hrow Tryz.underlying48 rfl hsz ?_)
  clear hrow
  go_loopw [6] (fun i wr => wr = w ∧ ∃ k : Nat, k ≤ 20 ∧ i = .int .i64 k ∧ Hid (∀ j : Nat, j < k → nmT.getD j [] ≠ s.data.toList)) (fun i _ => 20 - (intOf i).toNat)
  case atStart => exact ⟨rfl, 0, by omega, rfl, fun j hj => absurd hj (by omega)⟩
  case round =>
    obtain ⟨rfl, k, hk, rfl, HN⟩ := hrel
    by_cases hlt : k < 20
    · have hix := Hidx.out k hlt
      have Hb : Hid (((mkB (nmT.getD k [])).toList == s.toList) = decide (mkB (nmT.getD k []) = s)) := bytes_eq _ _
      by_cases he : mkB (nmT.getD k []) = s
      · have Hv : Hid (R = (k : Int)) := by
          show _ = _
          rw [← HR.out, ← he, mkB_list, opU_hit k hlt]
        have hb : ((mkB (nmT.getD k [])).toList == s.toList) = true := Hb.out.trans (decide_eq_true he)
        generalize mkB (nmT.getD k []) = X at *
        clear he
        go_wp2_with fail
        go_ret
        rw [Hv.out]
        exact ⟨rfl, rfl⟩
      · have hb : ((mkB (nmT.getD k [])).toList == s.toList) = false := Hb.out.trans (decide_eq_false he)
        have HN2 : Hid (∀ j : Nat, j < k + 1 → nmT.getD j [] ≠ s.data.toList) := by
          intro j hj
          rcases (by omega : j < k ∨ j = k) with h | h
          · exact HN.out j h
          · subst h
            intro e
            apply he
            rw [e, mkB_self]
        generalize mkB (nmT.getD k []) = X at *
        clear he
        go_wp2_with fail
        go_roundw
        case rel => exact ⟨trivial, k + 1, by omega, by go_num, HN2⟩
        case measure => simp [intOf]; omega
    · have Hv : Hid (R = 0) := by
        show _ = _
        rw [← HR.out]
        exact opU_miss _ (fun j hj => HN.out j (by omega))
      go_wp2_with fail
      go_ret
      rw [Hv.out]
      first | exact ⟨rfl, rfl⟩ | exact ⟨rfl, trivial⟩

end Go.Proofs.YthopmlgfklhagaaGreatDoor
