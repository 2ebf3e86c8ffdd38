/- Schemas as bytes; contracts, over the turned program: rows.Schema and the reference's make them as the plain words say. Conditions: those that each theorem states. -/
import Derived.Test.YtiledkdoabdnnabRRef
import Derived.Test.YtiledkdoabdnnabRRead
namespace Go.Proofs.Ytiledkdoabdnnab
open Go.RowKit
set_option linter.unusedVariables false

def b8 (k : Int) : UInt8 := UInt8.ofNat k.toNat
/-- A schema's bytes, or the error. -/
def schB (ks : List Int) (u x : Int) : List UInt8 := b8 ks.length :: (ks.map b8 ++ [b8 u, b8 x])
def scE (ks : List Int) (u x : Int) : Int := if rightS ks u x then 0 else 4
def scB (ks : List Int) (u x : Int) : List UInt8 := if rightS ks u x then schB ks u x else []
theorem wrap_small (k : Int) (h0 : 0 ≤ k) (h1 : k < 256) : IntKind.u64.wrap k = ((k.toNat : Nat) : Int) := by
  rw [IntKind.wrap_u64]
  omega
theorem rightS_parts {ks : List Int} {u x : Int} (h : rightS ks u x = true) : (∀ k ∈ ks, k = 1 ∨ k = 2) ∧ 0 ≤ u ∧ u < 4 ∧ 0 ≤ x ∧ x < 4 := by
  have hl := rightS_len ks u x h
  unfold rightS rightX at h
  simp only [Bool.and_eq_true] at h
  obtain ⟨⟨hk, hu⟩, hx, _⟩ := h
  have hu := of_decide_eq_true hu
  have hx := of_decide_eq_true hx
  refine ⟨?_, by omega, by omega, by omega, by omega⟩
  intro k hm
  unfold rightK at hk
  rw [Bool.and_eq_true] at hk
  have := List.all_eq_true.1 hk.2 k hm
  unfold okK at this
  simp at this
  omega
theorem map_step (ks : List Int) (j : Nat) (h : j < ks.length) : (ks.take (j + 1)).map b8 = (ks.take j).map b8 ++ [b8 ks[j]] := by
  rw [List.take_succ_eq_append_getElem h, List.map_append]
  rfl

set_option maxRecDepth 100000 in
set_option maxHeartbeats 400000 in
theorem rschema_any (kv : Value) (ks : List Int) (u x : Int) (w : World) (hK : Kd w kv ks) :
    Calls Try.prog 5 #[sval kv u x] w fun e w' => e = .returned (.tuple #[.string ⟨(scB ks u x).toArray⟩, .int .i64 (scE ks u x)]) ∧ w.grownBy w' none := by
  have hga := World.grownBy_alloc w (.cells #[kv, .int .i64 u, .int .i64 x] 24) none
  have hS := Sb.new w kv u x
  have hKa := hK.keptN hga
  have hgas : w.heap.size < (w.alloc (.cells #[kv, .int .i64 u, .int .i64 x] 24)).heap.size := by simp
  obtain ⟨wa, Ha⟩ : ∃ wa, Hid (wa = w.alloc (.cells #[kv, .int .i64 u, .int .i64 x] 24)) := ⟨_, rfl⟩
  rw [← Ha.out] at hga hS hKa hgas
  unfold sval
  by_cases hr : rightS ks u x = true
  · obtain ⟨hk12, hu0, hu1, hx0, hx1⟩ := rightS_parts hr
    have hlen := rightS_len ks u x hr
    have HE : Hid (scE ks u x = 0) := by show _ = _; unfold scE; rw [hr]; rfl
    have HB : Hid (scB ks u x = b8 ks.length :: (ks.map b8 ++ [b8 u, b8 x])) := by show _ = _; unfold scB schB; rw [hr]; rfl
    obtain ⟨ka, kc, rfl, hkc, hkm, hkL⟩ := hKa
    have hKa2 : Kd wa (.slice ka ks.length kc) ks := ⟨ka, kc, rfl, hkc, hkm, hkL⟩
    have HkL : Hid (∀ i (h : i < ks.length), ∃ b off, ka = some ⟨b, off, none⟩ ∧ b < wa.heap.size ∧ wa.cell? ⟨b, off + i, none⟩ = some (.int .i64 ks[i])) := hkL
    have Hk12 : Hid (∀ k ∈ ks, k = 1 ∨ k = 2) := hk12
    have hklm : ks.length ≤ maxLen := Nat.le_trans hkc hkm
    unfold maxLen at hklm
    have Huu : Hid (IntKind.u64.wrap u = ((u.toNat : Nat) : Int)) := wrap_small _ (by omega) (by omega)
    have Hux : Hid (IntKind.u64.wrap x = ((x.toNat : Nat) : Int)) := wrap_small _ (by omega) (by omega)
    have Hs256 : Hid (ks.length < 256 ∧ u.toNat < 256 ∧ x.toNat < 256) := by show _ ∧ _ ∧ _; omega
    have Hl4 : Hid (ks.length ≤ 4) := hlen.2
    clear hkL hkc hkm hk12 hK hu0 hu1 hx0 hx1
    go_enter Try.func5, Try.ntmps5
    go_wp2_with fail
    rw [← Ha.out]
    refine (rightS_any _ ks u x _ hKa2).mono ?_
    rintro e w1 ⟨rfl, hg1⟩
    rw [hr]
    have c0 := (hS.keptN hg1).c0
    go_wp2_with fail
    refine (num1 (.slice none 0 0) [] ks.length wa.heap.size _ Hs256.out.1 (Own.nil _ _ _) hg1.size (by simp)).mono ?_
    rintro e w2 ⟨v2, rfl, ho2, hf2⟩
    have hG2 : wa.grownBy w2 none := grown_new hg1 hf2.1 (by simp [Value.ownBlock])
    have d0 := (hS.keptN hG2).c0
    clear c0 hg1 hf2 hKa2
    go_wp2_with fail
    go_loopw [4, 18] (fun b i wr => ∃ j : Nat, j ≤ ks.length ∧ i = .int .i64 j ∧ Own 5 wr wa.heap.size b ([b8 ks.length] ++ (ks.take j).map b8) ∧ wa.grownBy wr none) (fun _ i _ => ks.length - (intOf i).toNat)
    case atStart => exact ⟨0, Nat.zero_le _, rfl, by simpa [b8] using ho2, hG2⟩
    case round =>
      clear ho2 hG2 d0
      obtain ⟨j, hj, rfl, ho, hg⟩ := hrel
      have hgs := hg.size
      have hrow : ∀ k, u4.ownBlock = some k → wa.heap.size ≤ k := fun k hk => (ho.lt k hk).1
      have Hle : Hid (([b8 ks.length] ++ (ks.take j).map b8).length ≤ 140737488355300) := by
        have := Hl4.out
        show _ ≤ _
        simp
        omega
      by_cases hlt : j < ks.length
      · obtain ⟨b, off, rfl, hb, k0⟩ := HkL.out j hlt
        rw [← cell_same (hg.block b hb (by simp))] at k0
        have hji : (j : Int) < (ks.length : Int) := by omega
        have hk := Hk12.out ks[j] (List.getElem_mem hlt)
        have Hst : Hid ((ks.take (j + 1)).map b8 = (ks.take j).map b8 ++ [b8 ks[j]]) := map_step ks j hlt
        generalize ks[j] = k at *
        have Hw : Hid (IntKind.u64.wrap k = ((k.toNat : Nat) : Int) ∧ k.toNat < 256) := ⟨wrap_small _ (by omega) (by omega), by omega⟩
        clear hk
        go_wp2_with fail
        rw [Hw.out.1]
        refine (num1 u4 _ _ wa.heap.size _ Hw.out.2 ho hgs Hle.out).mono ?_
        rintro e w3 ⟨v3, rfl, ho3, hf3⟩
        have hG3 : wa.grownBy w3 none := grown_new hg hf3.1 hrow
        go_wp2_with fail
        go_roundw
        case rel => exact ⟨j + 1, by omega, by go_num, by rw [Hst.out, ← List.append_assoc]; exact ho3, hG3⟩
        case measure => simp [intOf]; omega
      · have hji : ¬ (j : Int) < (ks.length : Int) := by omega
        have ej : ks.take j = ks := List.take_of_length_le (by omega)
        rw [ej] at ho Hle
        have q1 := (hS.keptN hg).c1
        clear ej
        go_wp2_with fail
        rw [Huu.out]
        refine (num1 u4 _ _ wa.heap.size _ Hs256.out.2.1 ho hgs Hle.out).mono ?_
        rintro e w3 ⟨v3, rfl, ho3, hf3⟩
        have hG3 : wa.grownBy w3 none := grown_new hg hf3.1 hrow
        have hrow3 : ∀ k, v3.ownBlock = some k → wa.heap.size ≤ k := fun k hk => (ho3.lt k hk).1
        have p2 := (hS.keptN hG3).c2
        have Hle3 : Hid (([b8 ks.length] ++ ks.map b8 ++ [UInt8.ofNat u.toNat]).length ≤ 140737488355300) := by
          have := Hl4.out
          show _ ≤ _
          simp
          omega
        clear q1 ho hf3 hg
        go_wp2_with fail
        rw [Hux.out]
        refine (num1 v3 _ _ wa.heap.size _ Hs256.out.2.2 ho3 hG3.size Hle3.out).mono ?_
        rintro e w4 ⟨v4, rfl, ho4, hf4⟩
        have hG4 : wa.grownBy w4 none := grown_new hG3 hf4.1 hrow3
        have hcv := run_convert_own w4 44 9 5 Try.underlying44 Try.underlying5 Try.underlying9 ho4
        clear ho3 ho4 hf4 p2
        go_wp2
        go_ret2
        rw [HE.out, HB.out]
        exact ⟨rfl, grown_up hga hG4⟩
  · have hr' : rightS ks u x = false := by simpa using hr
    have HE : Hid (scE ks u x = 4) := by show _ = _; unfold scE; rw [hr']; rfl
    have HB : Hid (scB ks u x = []) := by show _ = _; unfold scB; rw [hr']; rfl
    go_enter Try.func5, Try.ntmps5
    go_wp2_with fail
    rw [← Ha.out]
    refine (rightS_any _ ks u x _ hKa).mono ?_
    rintro e w1 ⟨rfl, hg1⟩
    rw [hr']
    go_wp2
    go_ret2
    rw [HE.out, HB.out]
    exact ⟨rfl, grown_up hga hg1⟩

set_option maxRecDepth 100000 in
set_option maxHeartbeats 400000 in
theorem rrschema_any (kv : Value) (ks : List Int) (u x : Int) (w : World) (hK : Kd w kv ks) :
    Calls Try.prog 6 #[sval kv u x] w fun e w' => e = .returned (.tuple #[.string ⟨(scB ks u x).toArray⟩, .int .i64 (scE ks u x)]) ∧ w.grownBy w' none := by
  have hga := World.grownBy_alloc w (.cells #[kv, .int .i64 u, .int .i64 x] 24) none
  have hS := Sb.new w kv u x
  have hKa := hK.keptN hga
  obtain ⟨wa, Ha⟩ : ∃ wa, Hid (wa = w.alloc (.cells #[kv, .int .i64 u, .int .i64 x] 24)) := ⟨_, rfl⟩
  rw [← Ha.out] at hga hS hKa
  unfold sval
  by_cases hr : rightS ks u x = true
  · obtain ⟨hk12, hu0, hu1, hx0, hx1⟩ := rightS_parts hr
    have hlen := rightS_len ks u x hr
    have HE : Hid (scE ks u x = 0) := by show _ = _; unfold scE; rw [hr]; rfl
    have HB : Hid (scB ks u x = b8 ks.length :: (ks.map b8 ++ [b8 u, b8 x])) := by show _ = _; unfold scB schB; rw [hr]; rfl
    obtain ⟨ka, kc, rfl, hkc, hkm, hkL⟩ := hKa
    have hKa2 : Kd wa (.slice ka ks.length kc) ks := ⟨ka, kc, rfl, hkc, hkm, hkL⟩
    have HkL : Hid (∀ i (h : i < ks.length), ∃ b off, ka = some ⟨b, off, none⟩ ∧ b < wa.heap.size ∧ wa.cell? ⟨b, off + i, none⟩ = some (.int .i64 ks[i])) := hkL
    have Hk12 : Hid (∀ k ∈ ks, k = 1 ∨ k = 2) := hk12
    have hklm : ks.length ≤ maxLen := Nat.le_trans hkc hkm
    unfold maxLen at hklm
    have Huu : Hid (IntKind.u64.wrap u = ((u.toNat : Nat) : Int)) := wrap_small _ (by omega) (by omega)
    have Hux : Hid (IntKind.u64.wrap x = ((x.toNat : Nat) : Int)) := wrap_small _ (by omega) (by omega)
    have Hs256 : Hid (ks.length < 256 ∧ u.toNat < 256 ∧ x.toNat < 256) := by show _ ∧ _ ∧ _; omega
    have Hl4 : Hid (ks.length ≤ 4) := hlen.2
    clear hkL hkc hkm hk12 hK hu0 hu1 hx0 hx1
    go_enter Try.func6, Try.ntmps6
    go_wp2_with fail
    rw [← Ha.out]
    refine (rright_any _ ks u x _ hKa2).mono ?_
    rintro e w1 ⟨rfl, hg1⟩
    rw [hr]
    have c0 := (hS.keptN hg1).c0
    go_wp2_with fail
    refine (rfnum1 ks.length _ Hs256.out.1).mono ?_
    rintro e w2 ⟨rfl, hg2⟩
    have hG2 : wa.grownBy w2 none := grown_up hg1 hg2
    clear c0 hg1 hg2 hKa2
    go_wp2_with fail
    go_loopw [4, 5] (fun t i wr => ∃ (j : Nat) (A : ByteArray), j ≤ ks.length ∧ i = .int .i64 j ∧ t = .string A ∧ Hid (A = mkB ([b8 ks.length] ++ (ks.take j).map b8)) ∧ wa.grownBy wr none) (fun _ i _ => ks.length - (intOf i).toNat)
    case atStart => exact ⟨0, _, Nat.zero_le _, rfl, rfl, rfl, hG2⟩
    case round =>
      clear hG2
      obtain ⟨j, A, hj, rfl, rfl, HA, hg⟩ := hrel
      have hgs := hg.size
      have c0 := (hS.keptN hg).c0
      have HAs : Hid (A.size ≤ 8) := by
        have := Hl4.out
        show _ ≤ _
        rw [HA.out, mkB_size]
        simp
        omega
      by_cases hlt : j < ks.length
      · obtain ⟨b, off, rfl, hb, k0⟩ := HkL.out j hlt
        rw [← cell_same (hg.block b hb (by simp))] at k0
        have hji : (j : Int) < (ks.length : Int) := by omega
        have hk := Hk12.out ks[j] (List.getElem_mem hlt)
        have Hst : Hid ((ks.take (j + 1)).map b8 = (ks.take j).map b8 ++ [b8 ks[j]]) := map_step ks j hlt
        generalize ks[j] = k at *
        have Hw : Hid (IntKind.u64.wrap k = ((k.toNat : Nat) : Int) ∧ k.toNat < 256) := ⟨wrap_small _ (by omega) (by omega), by omega⟩
        clear hk
        go_wp2_with fail
        rw [Hw.out.1]
        refine (rfnum1 _ _ Hw.out.2).mono ?_
        rintro e w3 ⟨rfl, hg3⟩
        have hG3 := grown_up hg hg3
        have hS3 : ¬ 9223372036854775807 < A.size + 1 := by have := HAs.out; omega
        go_wp2_with fail
        go_roundw
        case rel => exact ⟨j + 1, _, by omega, by go_num, rfl, by show _ = _; rw [Hst.out, ← List.append_assoc, HA.out]; exact mkB_append _ [b8 k], hG3⟩
        case measure => simp [intOf]; omega
      · have hji : ¬ (j : Int) < (ks.length : Int) := by omega
        have ej : ks.take j = ks := List.take_of_length_le (by omega)
        rw [ej] at HA
        have s1 : ∀ W : World, wr.grownBy W none → W.cell? ⟨w.heap.size, 1, none⟩ = some (.int .i64 u) := fun W h => (hS.keptN (grown_up hg h)).c1
        have s2 : ∀ W : World, wr.grownBy W none → W.cell? ⟨w.heap.size, 2, none⟩ = some (.int .i64 x) := fun W h => (hS.keptN (grown_up hg h)).c2
        have dr : wr.grownBy wr.drew none := ⟨rfl, rfl, rfl, Nat.le_refl _, fun _ _ _ => rfl⟩
        have hS3 : ¬ 9223372036854775807 < A.size + 1 := by have := HAs.out; omega
        have hS4 : ¬ 9223372036854775807 < A.size + 1 + 1 := by have := HAs.out; omega
        clear ej
        generalize w.heap.size = g at *
        go_upto_region 8 with fail
        go_region_held_law (fun w' => wr.grownBy w' none) (first | assumption | exact dr) (first
          | (go_at_call 16; rw [Huu.out]; refine (rfnum1 u.toNat _ Hs256.out.2.1).mono ?_; rintro e w3 ⟨rfl, hg3⟩; have S3 : wr.grownBy w3 none := grown_up (by assumption) hg3; clear hg3)
          | (go_at_call 16; rw [Hux.out]; refine (rfnum1 x.toNat _ Hs256.out.2.2).mono ?_; rintro e w4 ⟨rfl, hg4⟩; have S4 : wr.grownBy w4 none := grown_up (by assumption) hg4; clear hg4))
        all_goals go_wp2
        all_goals go_ret2
        all_goals
          rw [HE.out, HB.out]
          refine ⟨?_, grown_up hga (grown_up hg (by assumption))⟩
          have e2 : mkB (b8 ks.length :: (ks.map b8 ++ [b8 u, b8 x])) = A ++ mkB [b8 u] ++ mkB [b8 x] := by rw [HA.out, mkB_append, mkB_append]; simp
          show _ = Ending.returned (Value.tuple #[Value.string (mkB (b8 ks.length :: (ks.map b8 ++ [b8 u, b8 x]))), Value.int .i64 0])
          rw [e2]
          rfl
  · have hr' : rightS ks u x = false := by simpa using hr
    have HE : Hid (scE ks u x = 4) := by show _ = _; unfold scE; rw [hr']; rfl
    have HB : Hid (scB ks u x = []) := by show _ = _; unfold scB; rw [hr']; rfl
    go_enter Try.func6, Try.ntmps6
    go_wp2_with fail
    rw [← Ha.out]
    refine (rright_any _ ks u x _ hKa).mono ?_
    rintro e w1 ⟨rfl, hg1⟩
    rw [hr']
    go_wp2
    go_ret2
    rw [HE.out, HB.out]
    exact ⟨rfl, grown_up hga hg1⟩

end Go.Proofs.Ytiledkdoabdnnab
