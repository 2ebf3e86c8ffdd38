/- Contracts, over the turned program: what the document's ordered and Right answer. Conditions: those that each theorem states. -/
import Derived.Test.YtponhibiomcidaaDoorNRefS
namespace Go.Proofs.YtponhibiomcidaaDoor
open Go Go.RowKit
set_option linter.unusedVariables false

theorem chainB_iff : ∀ l : List ByteArray, chainB l = true ↔ ∀ i (h : i + 1 < l.length), lessB l[i] l[i + 1] = true
  | [] => by simp [chainB]
  | [a] => by simp [chainB]
  | a :: b :: l => by
    simp only [chainB, Bool.and_eq_true, chainB_iff (b :: l)]
    constructor
    · rintro ⟨h1, h2⟩ i h
      rcases i with _ | i
      · exact h1
      · exact h2 i (by simpa using h)
    · intro h
      exact ⟨h 0 (by simp), fun i hi => h (i + 1) (by simpa using hi)⟩
/-- The text at i is as it may be, behind the one ahead of it. -/
def okAt (l : List ByteArray) (i : Nat) (h : i < l.length) : Prop := okKey l[i] = true ∧ ∀ k (e : i = k + 1), lessB (l[k]'(by omega)) l[i] = true
theorem ordN_iff (l : List ByteArray) : ordN l = true ↔ ∀ i (h : i < l.length), okAt l i h := by
  unfold ordN
  rw [Bool.and_eq_true, List.all_eq_true, chainB_iff]
  constructor
  · rintro ⟨h1, h2⟩ i h
    refine ⟨h1 _ (List.getElem_mem h), fun k e => ?_⟩
    subst e
    exact h2 k h
  · intro h
    refine ⟨fun x hx => ?_, fun i hi => (h (i + 1) hi).2 i rfl⟩
    obtain ⟨i, hi, rfl⟩ := List.getElem_of_mem hx
    exact (h i hi).1

set_option maxRecDepth 100000 in
set_option maxHeartbeats 800000 in
theorem rordered_any (v : Value) (l : List ByteArray) (B : Nat) (w : World) (hS : Sl Value.string B w v l) (hwk : ∀ x ∈ l, x.size ≤ maxLen) :
    Calls Tryd.prog 70 #[v] w fun e w' => e = .returned (.bool (ordN l)) ∧ Kp none' w w' := by
  obtain ⟨a, c, rfl, hlc, hcm, ha⟩ := hS
  unfold maxLen at hcm
  have HA : Hid (∀ i (h : i < l.length), ∃ b off, a = some ⟨b, off, none⟩ ∧ b < B ∧ w.cell? ⟨b, off + i, none⟩ = some (.string l[i])) := ha
  clear ha
  go_enter Tryd.func70, Tryd.ntmps70
  go_wp2
  go_loopw [3] (fun t wr => ∃ j : Nat, j ≤ l.length ∧ t = .int .i64 j ∧ Hid (∀ i (h : i < l.length), i < j → okAt l i h) ∧ Kp none' w wr) (fun t _ => l.length - (intOf t).toNat)
  case atStart => exact ⟨0, Nat.zero_le _, rfl, fun i h h' => absurd h' (by omega), Kp.refl _ _⟩
  case round =>
    obtain ⟨j, hj, rfl, HO, hK⟩ := hrel
    by_cases hlt : j < l.length
    · obtain ⟨b, o, rfl, _, hc'⟩ := HA.out j hlt
      have hc := hK.cell hc' (fun h => h)
      clear hc'
      have hlt' : (j : Int) < (l.length : Int) := by omega
      have hm := hwk _ (List.getElem_mem hlt)
      have HB : Hid (¬ okAt l j hlt → ordN l = false) := by
        intro h
        cases e : ordN l with
        | false => rfl
        | true => exact absurd ((ordN_iff l).1 e j hlt) h
      have HN : Hid (okAt l j hlt → ∀ i (h : i < l.length), i < j + 1 → okAt l i h) := by
        intro h i hi hij
        rcases Nat.lt_succ_iff_lt_or_eq.1 hij with h' | h'
        · exact HO.out i hi h'
        · subst h'; exact h
      by_cases h0 : l[j].size < 1
      · have HF : Hid (ordN l = false) := HB.out (fun h => by have := h.1; unfold okKey at this; simp at this; omega)
        have h0' : decide ((l[j].size : Int) < 1) = true := by simp; omega
        generalize l[j] = y at *
        clear HB HN HO
        go_upto_region 4 with fail
        go_quiet (fail)
        go_wp2
        go_ret
        rw [HF.out]
        exact ⟨rfl, hK.thenN (Kp.drewN _ _ _)⟩
      by_cases h1 : 32 < l[j].size
      · have HF : Hid (ordN l = false) := HB.out (fun h => by have := h.1; unfold okKey at this; simp at this; omega)
        have h0' : decide ((l[j].size : Int) < 1) = false := by simp; omega
        have h1' : decide (32 < (l[j].size : Int)) = true := by simp; omega
        generalize l[j] = y at *
        clear HB HN HO
        go_upto_region 4 with fail
        go_quiet (fail)
        go_wp2
        go_ret
        rw [HF.out]
        exact ⟨rfl, hK.thenN (Kp.drewN _ _ _)⟩
      have h0' : decide ((l[j].size : Int) < 1) = false := by simp; omega
      have h1' : decide (32 < (l[j].size : Int)) = false := by simp; omega
      have HK : Hid (okKey l[j] = true) := by show _ = _; unfold okKey; simp; omega
      by_cases hz : j = 0
      · have HN2 : Hid (∀ i (h : i < l.length), i < j + 1 → okAt l i h) := HN.out ⟨HK.out, fun k e => by omega⟩
        have hz' : decide (0 < j) = false := by simp; omega
        clear HB HN HO HK hz
        generalize l[j] = y at *
        go_upto_region 4 with fail
        go_quiet (fail)
        go_wp2
        go_roundw
        case rel => exact ⟨j + 1, by omega, by go_num, HN2, hK.thenN (Kp.drewN _ _ _)⟩
        case measure => simp [intOf]; omega
      · obtain ⟨i, Hi⟩ : ∃ i, Hid (j = i + 1) := ⟨j - 1, by show _ = _; omega⟩
        have hi : i < l.length := by have := Hi.out; omega
        obtain ⟨b', o', e, _, hd'⟩ := HA.out i hi
        cases e
        have hd := hK.cell hd' (fun h => h)
        clear hd'
        have hm' := hwk _ (List.getElem_mem hi)
        have HL : Hid (okAt l j hlt ↔ lessB l[i] l[j] = true) := by
          constructor
          · intro h; exact h.2 i Hi.out
          · intro h; exact ⟨HK.out, fun k e => by have e' : k = i := (by have := Hi.out; omega); subst e'; exact h⟩
        have hi0 : decide (0 < j) = true := by have := Hi.out; simp; omega
        have hi1 : IntKind.i64.wrap ((j : Int) - 1) = (i : Int) := by have := Hi.out; rw [IntKind.wrap_i64]; omega
        have hi2 : (i : Int) < (l.length : Int) := by omega
        have c1 : ∀ W : World, Kp none' wr W → W.cell? ⟨b, o + j, none⟩ = some (.string l[j]) := fun W h => h.cell hc (fun h => h)
        have c2 : ∀ W : World, Kp none' wr W → W.cell? ⟨b, o + i, none⟩ = some (.string l[i]) := fun W h => h.cell hd (fun h => h)
        have dr : Kp none' wr wr.drew := Kp.drew _ _
        clear hc hd HK
        cases hx : lessB l[i] l[j] with
        | true =>
          have HN2 : Hid (∀ k (h : k < l.length), k < j + 1 → okAt l k h) := HN.out (HL.out.2 hx)
          clear HB HN HO HL
          generalize l[j] = y at *
          generalize l[i] = z at *
          go_upto_region 4 with fail
          go_region_held_law (fun W => Kp none' wr W) (first | assumption | exact dr) (first
            | (go_at_call 83; refine (nahead_any z y _ hm' hm).mono ?_; rintro e w2 ⟨rfl, hg2⟩; rw [hx]; have S2 : Kp none' wr w2 := Kp.thenN (by assumption) hg2))
          go_wp2
          go_roundw
          case rel => exact ⟨j + 1, by omega, by go_num, HN2, hK.thenN S2⟩
          case measure => simp [intOf]; omega
        | false =>
          have HF : Hid (ordN l = false) := HB.out (fun h => by have := HL.out.1 h; rw [hx] at this; cases this)
          clear HB HN HO HL
          generalize l[j] = y at *
          generalize l[i] = z at *
          go_upto_region 4 with fail
          go_region_held_law (fun W => Kp none' wr W) (first | assumption | exact dr) (first
            | (go_at_call 83; refine (nahead_any z y _ hm' hm).mono ?_; rintro e w2 ⟨rfl, hg2⟩; rw [hx]; have S2 : Kp none' wr w2 := Kp.thenN (by assumption) hg2))
          go_wp2
          go_ret
          rw [HF.out]
          exact ⟨rfl, hK.thenN S2⟩
    · have hlt' : ¬ (j : Int) < (l.length : Int) := by omega
      have HF : Hid (ordN l = true) := (ordN_iff l).2 (fun i h => HO.out i h (by omega))
      go_wp2
      go_ret
      rw [HF.out]
      exact ⟨rfl, hK⟩

end Go.Proofs.YtponhibiomcidaaDoor
