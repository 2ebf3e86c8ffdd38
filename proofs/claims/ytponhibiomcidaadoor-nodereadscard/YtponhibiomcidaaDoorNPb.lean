/- Contracts, over the turned program: which nodes may be. Conditions: those that each theorem states. -/
import Derived.Test.YtponhibiomcidaaDoorNPa
import Derived.Test.YtponhibiomcidaaDoorNRefR
namespace Go.Proofs.YtponhibiomcidaaDoor
open Go Go.RowKit
set_option linter.unusedVariables false

/-- A key may stand behind another one; the one ahead; what that says. -/
def folB (a k : ByteArray) : Bool := lessB a k && decide (k.size ≤ 32)
def aheadK (l : List ByteArray) : Nat → ByteArray
  | 0 => ⟨#[]⟩
  | j + 1 => l.getD j ⟨#[]⟩
theorem less_empty (k : ByteArray) : lessB ⟨#[]⟩ k = decide (1 ≤ k.size) := by
  unfold lessB
  have h := size_list k
  cases e : k.data.toList with
  | nil => rw [e] at h; simp at h; simp [Op.bytesLess, ← h]
  | cons x r => rw [e] at h; simp at h; simp [Op.bytesLess, ← h]
theorem less_size {a k : ByteArray} (h : lessB a k = true) : 1 ≤ k.size := by
  unfold lessB at h
  have h1 := size_list k
  cases e : k.data.toList with
  | nil => rw [e] at h; simp [Op.bytesLess] at h
  | cons x r => rw [e] at h1; simp at h1; omega
theorem fol_iff (l : List ByteArray) (j : Nat) (h : j < l.length) : folB (aheadK l j) l[j] = true ↔ okAt l j h := by
  unfold folB okAt okKey
  cases j with
  | zero =>
    show (lessB ⟨#[]⟩ _ && _) = true ↔ _
    rw [less_empty]
    simp
  | succ j =>
    show (lessB (l.getD j ⟨#[]⟩) _ && _) = true ↔ _
    have e : l.getD j ⟨#[]⟩ = l[j]'(by omega) := by rw [List.getD_eq_getElem?_getD, List.getElem?_eq_getElem (by omega)]; rfl
    rw [e]
    simp only [Bool.and_eq_true, decide_eq_true_eq]
    constructor
    · rintro ⟨h1, h2⟩
      exact ⟨⟨less_size h1, h2⟩, fun k e => by cases e; exact h1⟩
    · rintro ⟨h1, h2⟩
      exact ⟨h2 j rfl, h1.2⟩

set_option maxRecDepth 100000 in
set_option maxHeartbeats 400000 in
theorem follows_any (a k : ByteArray) (w : World) :
    Calls Tryd.prog 64 #[.string a, .string k] w fun e w' => e = .returned (.bool (folB a k)) ∧ w' = w := by
  have e1 : Op.bytesLess a.toList k.toList = lessB a k := by unfold lessB; rw [ByteArray.toList_eq, ByteArray.toList_eq]
  cases h : lessB a k with
  | true =>
    rw [h] at e1
    go_enter Tryd.func64, Tryd.ntmps64
    go_wp2
    go_ret
    refine ⟨?_, rfl⟩
    unfold folB
    rw [h]
    congr 2
    simp
    omega
  | false =>
    rw [h] at e1
    go_enter Tryd.func64, Tryd.ntmps64
    go_wp2
    go_ret
    refine ⟨?_, rfl⟩
    unfold folB
    rw [h]
    rfl

set_option maxRecDepth 100000 in
set_option maxHeartbeats 800000 in
theorem keysMayBe_any (v : Value) (ks : List ByteArray) (B : Nat) (w : World) (hS : Sl Value.string B w v ks) :
    Calls Tryd.prog 36 #[v] w fun e w' => e = .returned (.bool (ordN ks)) ∧ Kp none' w w' := by
  obtain ⟨a, c, rfl, hlc, hcm, ha⟩ := hS
  unfold maxLen at hcm
  have HA : Hid (∀ i (h : i < ks.length), ∃ b off, a = some ⟨b, off, none⟩ ∧ b < B ∧ w.cell? ⟨b, off + i, none⟩ = some (.string ks[i])) := ha
  clear ha
  go_enter Tryd.func36, Tryd.ntmps36
  go_wp2
  go_loopw [3, 5, 8] (fun t _ u wr => ∃ j : Nat, j ≤ ks.length ∧ u = .int .i64 j ∧ t = .string (aheadK ks j) ∧ Hid (∀ i (h : i < ks.length), i < j → okAt ks i h) ∧ Kp none' w wr) (fun _ _ u _ => ks.length - (intOf u).toNat)
  case atStart => exact ⟨0, Nat.zero_le _, rfl, rfl, fun i h h' => absurd h' (by omega), Kp.refl _ _⟩
  case round =>
    obtain ⟨j, hj, rfl, rfl, HO, hK⟩ := hrel
    by_cases hlt : j < ks.length
    · obtain ⟨b, o, rfl, _, hc'⟩ := HA.out j hlt
      have hc := hK.cell hc' (fun h => h)
      clear hc'
      have hlt' : (j : Int) < (ks.length : Int) := by omega
      have hfi := fol_iff ks j hlt
      cases hf : folB (aheadK ks j) ks[j] with
      | true =>
        have HN : Hid (∀ i (h : i < ks.length), i < j + 1 → okAt ks i h) := by
          intro i h hij
          rcases Nat.lt_succ_iff_lt_or_eq.1 hij with h' | h'
          · exact HO.out i h h'
          · subst h'; exact hfi.1 hf
        have HT : Hid (aheadK ks (j + 1) = ks[j]) := by
          show ks.getD j _ = _
          rw [List.getD_eq_getElem?_getD, List.getElem?_eq_getElem hlt]; rfl
        clear hfi HO
        generalize ks[j] = y at *
        generalize aheadK ks j = z at *
        go_wp2_with (go_at_call 64; refine (follows_any z y _).mono ?_; rintro e w' ⟨rfl, rfl⟩; rw [hf])
        go_roundw
        case rel => exact ⟨j + 1, by omega, by go_num, by rw [HT.out], HN, hK⟩
        case measure => simp [intOf]; omega
      | false =>
        have HF : Hid (ordN ks = false) := by
          cases e : ordN ks with
          | false => rfl
          | true => have := hfi.2 ((ordN_iff ks).1 e j hlt); rw [hf] at this; cases this
        clear hfi HO
        generalize ks[j] = y at *
        generalize aheadK ks j = z at *
        go_wp2_with (go_at_call 64; refine (follows_any z y _).mono ?_; rintro e w' ⟨rfl, rfl⟩; rw [hf])
        go_ret
        rw [HF.out]
        exact ⟨rfl, hK⟩
    · have hlt' : ¬ (j : Int) < (ks.length : Int) := by omega
      have HF : Hid (ordN ks = true) := (ordN_iff ks).2 (fun i h => HO.out i h (by omega))
      clear HO
      go_wp2
      go_ret
      rw [HF.out]
      exact ⟨rfl, hK⟩
/-- Pairs that may be. -/
def okPs (ps : List Pr) : Bool := ps.all (fun p => decide (p.v.size ≤ 40)) && ordN (ps.map Pr.k)
theorem okPs_iff (ps : List Pr) : okPs ps = true ↔ ∀ i (h : i < ps.length), folB (aheadK (ps.map Pr.k) i) ps[i].k = true ∧ ps[i].v.size ≤ 40 := by
  unfold okPs
  rw [Bool.and_eq_true, allV_iff, ordN_iff]
  constructor
  · rintro ⟨h1, h2⟩ i h
    have h3 := (fol_iff (ps.map Pr.k) i (by simpa using h)).2 (h2 i (by simpa using h))
    rw [List.getElem_map] at h3
    exact ⟨h3, h1 i h⟩
  · intro h1
    refine ⟨fun i h => (h1 i h).2, fun i h => ?_⟩
    have h' : i < ps.length := by simpa using h
    apply (fol_iff (ps.map Pr.k) i h).1
    rw [List.getElem_map]
    exact (h1 i h').1

set_option maxRecDepth 100000 in
set_option maxHeartbeats 800000 in
theorem pairsMayBe_any (v : Value) (ps : List Pr) (B : Nat) (w : World) (hP : Prs B w v ps) (hwp : ∀ x ∈ ps, x.k.size ≤ maxLen ∧ x.v.size ≤ maxLen) :
    Calls Tryd.prog 35 #[v] w fun e w' => e = .returned (.bool (okPs ps)) ∧ Kp none' w w' := by
  obtain ⟨a, c, rfl, hlc, hcm, ha⟩ := hP
  unfold maxLen at hcm
  have HA : Hid (∀ i (h : i < ps.length), ∃ b off, a = some ⟨b, off, none⟩ ∧ b < B ∧ w.cell? ⟨b, off + i * 2, none⟩ = some (.string ps[i].k) ∧ w.cell? ⟨b, off + i * 2 + 1, none⟩ = some (.string ps[i].v)) := ha
  clear ha
  go_enter Tryd.func35, Tryd.ntmps35
  go_wp2
  go_loopw [3, 5, 8] (fun t _ u wr => ∃ j : Nat, j ≤ ps.length ∧ u = .int .i64 j ∧ t = .string (aheadK (ps.map Pr.k) j) ∧ Hid (∀ i (h : i < ps.length), i < j → folB (aheadK (ps.map Pr.k) i) ps[i].k = true ∧ ps[i].v.size ≤ 40) ∧ Kp none' w wr) (fun _ _ u _ => ps.length - (intOf u).toNat)
  case atStart => exact ⟨0, Nat.zero_le _, rfl, rfl, fun i h h' => absurd h' (by omega), Kp.refl _ _⟩
  case round =>
    obtain ⟨j, hj, rfl, rfl, HO, hK⟩ := hrel
    by_cases hlt : j < ps.length
    · obtain ⟨b, o, rfl, _, hc', hd'⟩ := HA.out j hlt
      have hc := hK.cell hc' (fun h => h)
      have hd := hK.cell hd' (fun h => h)
      clear hc' hd'
      have hlt' : (j : Int) < (ps.length : Int) := by omega
      have hKa : Kp none' wr (wr.alloc (.cells #[.string ps[j].k, .string ps[j].v] 51)) := Kp.alloc _ _ _
      cases hf : folB (aheadK (ps.map Pr.k) j) ps[j].k with
      | true =>
        by_cases hz : ps[j].v.size ≤ 40
        · have HN : Hid (∀ i (h : i < ps.length), i < j + 1 → folB (aheadK (ps.map Pr.k) i) ps[i].k = true ∧ ps[i].v.size ≤ 40) := by
            intro i h hij
            rcases Nat.lt_succ_iff_lt_or_eq.1 hij with h' | h'
            · exact HO.out i h h'
            · subst h'; exact ⟨hf, hz⟩
          have HT : Hid (aheadK (ps.map Pr.k) (j + 1) = ps[j].k) := by
            show (ps.map Pr.k).getD j _ = _
            rw [List.getD_eq_getElem?_getD, List.getElem?_map, List.getElem?_eq_getElem hlt]; rfl
          have hy1 : ¬ 40 < (ps[j].v.size : Int) := by omega
          clear HO hz
          generalize ps[j] = y at *
          generalize aheadK (ps.map Pr.k) j = z at *
          go_wp2_with (go_at_call 64; refine (follows_any z y.k _).mono ?_; rintro e w' ⟨rfl, rfl⟩; rw [hf])
          go_roundw
          case rel => exact ⟨j + 1, by omega, by go_num, by rw [HT.out], HN, hK.thenN hKa⟩
          case measure => simp [intOf]; omega
        · have HF : Hid (okPs ps = false) := by
            cases e : okPs ps with
            | false => rfl
            | true => exact absurd ((okPs_iff ps).1 e j hlt).2 hz
          have hy1 : 40 < (ps[j].v.size : Int) := by omega
          clear HO hz
          generalize ps[j] = y at *
          generalize aheadK (ps.map Pr.k) j = z at *
          go_wp2_with (go_at_call 64; refine (follows_any z y.k _).mono ?_; rintro e w' ⟨rfl, rfl⟩; rw [hf])
          go_ret
          rw [HF.out]
          exact ⟨rfl, hK.thenN hKa⟩
      | false =>
        have HF : Hid (okPs ps = false) := by
          cases e : okPs ps with
          | false => rfl
          | true => have := ((okPs_iff ps).1 e j hlt).1; rw [hf] at this; cases this
        clear HO
        generalize ps[j] = y at *
        generalize aheadK (ps.map Pr.k) j = z at *
        go_wp2_with (go_at_call 64; refine (follows_any z y.k _).mono ?_; rintro e w' ⟨rfl, rfl⟩; rw [hf])
        go_ret
        rw [HF.out]
        exact ⟨rfl, hK.thenN hKa⟩
    · have hlt' : ¬ (j : Int) < (ps.length : Int) := by omega
      have HF : Hid (okPs ps = true) := (okPs_iff ps).2 (fun i h => HO.out i h (by omega))
      clear HO
      go_wp2
      go_ret
      rw [HF.out]
      exact ⟨rfl, hK⟩
/-- Kids that may be. -/
theorem fits_kid (z : Int) (h : -9223372036854775808 ≤ z ∧ z < 9223372036854775808) (v : Int) (hv : v = IntKind.u64.wrap z) (hz : z ≠ 0) (w : World) :
    Calls Tryd.prog 65 #[.int .u64 v, .int .i64 2] w fun y w' => y = .returned (.bool (okD z)) ∧ w' = w := by
  have e : v = (((IntKind.u64.wrap z).toNat : Nat) : Int) := by rw [hv, IntKind.wrap_u64]; omega
  rw [e]
  refine (fits_any _ 2 w (by rw [IntKind.wrap_u64]; omega)).mono ?_
  rintro y w' ⟨rfl, rfl⟩
  refine ⟨congrArg (fun b => Ending.returned (Value.bool b)) ?_, rfl⟩
  unfold fitsB okD
  rw [decide_eq_decide, IntKind.wrap_u64, show 2 ^ (8 * wid 2) = 65536 from rfl]
  omega

set_option maxRecDepth 100000 in
set_option maxHeartbeats 800000 in
theorem kidsMayBe_any (v : Value) (kd : List Int) (B : Nat) (w : World) (hD : Sl (Value.int .i64) B w v kd) (hwd : ∀ z ∈ kd, -9223372036854775808 ≤ z ∧ z < 9223372036854775808) :
    Calls Tryd.prog 37 #[v] w fun e w' => e = .returned (.bool (kd.all okD)) ∧ Kp none' w w' := by
  obtain ⟨a, c, rfl, hlc, hcm, ha⟩ := hD
  unfold maxLen at hcm
  have HA : Hid (∀ i (h : i < kd.length), ∃ b off, a = some ⟨b, off, none⟩ ∧ b < B ∧ w.cell? ⟨b, off + i, none⟩ = some (.int .i64 kd[i])) := ha
  have HW := hide hwd
  clear ha hwd
  go_enter Tryd.func37, Tryd.ntmps37
  go_wp2
  go_loopw [4, 7] (fun _ u wr => ∃ j : Nat, j ≤ kd.length ∧ u = .int .i64 j ∧ Hid (∀ i (h : i < kd.length), i < j → 1 ≤ kd[i] ∧ kd[i] ≤ 65535) ∧ Kp none' w wr) (fun _ u _ => kd.length - (intOf u).toNat)
  case atStart => exact ⟨0, Nat.zero_le _, rfl, fun i h h' => absurd h' (by omega), Kp.refl _ _⟩
  case round =>
    obtain ⟨j, hj, rfl, HO, hK⟩ := hrel
    by_cases hlt : j < kd.length
    · obtain ⟨b, o, rfl, _, hc'⟩ := HA.out j hlt
      have hc := hK.cell hc' (fun h => h)
      clear hc'
      have hlt' : (j : Int) < (kd.length : Int) := by omega
      have HR := hide (HW.out _ (List.getElem_mem hlt))
      by_cases hz : 1 ≤ kd[j] ∧ kd[j] ≤ 65535
      · have HN : Hid (∀ i (h : i < kd.length), i < j + 1 → 1 ≤ kd[i] ∧ kd[i] ≤ 65535) := by
          intro i h hij
          rcases Nat.lt_succ_iff_lt_or_eq.1 hij with h' | h'
          · exact HO.out i h h'
          · subst h'; exact hz
        have hz0 : (kd[j] == 0) = false := by rw [beq_eq_false_iff_ne]; omega
        have hok : okD kd[j] = true := by unfold okD; rw [decide_eq_true_eq]; exact hz
        have HZ : Hid (kd[j] ≠ 0) := by show _ ≠ _; omega
        clear hz HO
        generalize kd[j] = y at *
        go_wp2_with (go_at_call 65; refine (fits_kid y HR.out _ (by first | rfl | (rw [IntKind.wrap_u64])) HZ.out _).mono ?_; rintro e w' ⟨rfl, rfl⟩; rw [hok])
        go_roundw
        case rel => exact ⟨j + 1, by omega, by go_num, HN, hK⟩
        case measure => simp [intOf]; omega
      · have HF : Hid (kd.all okD = false) := by
          cases e : kd.all okD with
          | false => rfl
          | true => exact absurd ((allD_iff kd).1 e j hlt) hz
        by_cases hy : kd[j] = 0
        · have hz0 : (kd[j] == 0) = true := by rw [beq_iff_eq]; exact hy
          clear hz hy HO
          generalize kd[j] = y at *
          go_wp2
          go_ret
          rw [HF.out]
          exact ⟨rfl, hK⟩
        · have hz0 : (kd[j] == 0) = false := by rw [beq_eq_false_iff_ne]; omega
          have hok : okD kd[j] = false := by unfold okD; rw [decide_eq_false_iff_not]; exact hz
          have HZ : Hid (kd[j] ≠ 0) := hy
          clear hz hy HO
          generalize kd[j] = y at *
          go_wp2_with (go_at_call 65; refine (fits_kid y HR.out _ (by first | rfl | (rw [IntKind.wrap_u64])) HZ.out _).mono ?_; rintro e w' ⟨rfl, rfl⟩; rw [hok])
          go_ret
          rw [HF.out]
          exact ⟨rfl, hK⟩
    · have hlt' : ¬ (j : Int) < (kd.length : Int) := by omega
      have HF : Hid (kd.all okD = true) := (allD_iff kd).2 (fun i h => HO.out i h (by omega))
      clear HO
      go_wp2
      go_ret
      rw [HF.out]
      exact ⟨rfl, hK⟩

end Go.Proofs.YtponhibiomcidaaDoor
