/- Contract, over the turned program: undo.Join of sectors. Conditions: those that each theorem states. -/
import Derived.Test.YtgfijbbibafdfaaGreatUJoin
import Derived.Test.YtgfijbbibafdfaaGreatUShelf
namespace Go.Proofs.YtgfijbbibafdfaaGreat
open Go.RowKit
set_option linter.unusedVariables false

theorem join_cat (l : List ByteArray) : Lib.join (l.map (·.data.toList)) [] = catB l := by
  unfold catB
  rw [Lib.join]
  induction l with
  | nil => rfl
  | cons s l ih =>
    cases l with
    | nil => simp [List.intercalate]
    | cons t l =>
      rw [List.map_cons, List.map_cons, List.flatMap_cons, ← ih]
      simp [List.intercalate]
theorem Kp.ofBelow {w w' : World} (h : Below w.heap.size w w') : Kp none' w w' := ⟨h.os, h.tape, h.output, h.size, fun k hk _ => h.block k hk⟩
theorem strJoin (bk o c : Nat) (l : List ByteArray) (w : World) (hc : ∀ i (h : i < l.length), bk < w.heap.size ∧ w.cell? ⟨bk, o + i, none⟩ = some (.string l[i])) (hcap : l.length ≤ c) (hJ : okJ l = true) :
    Calls Tryz.prog 69 #[.slice (some ⟨bk, o, none⟩) l.length c, .string ⟨#[]⟩] w fun e w' => e = .returned (.string (joinS l)) ∧ Kp none' w w' := by
  have hj := hJ
  unfold okJ at hj
  simp only [decide_eq_true_eq] at hj
  have hl : (Lib.join (l.map (·.data.toList)) (⟨#[]⟩ : ByteArray).data.toList) = catB l := join_cat l
  have hs : (catB l).length = 256 := by rw [catB_len l hj.2, hj.1]
  refine (strings_Join bk o c l ⟨#[]⟩ w (fun j x hx => ?_) (hc 0 (by omega)).1 (by omega) hcap (by rw [hl]; omega)).mono ?_
  · obtain ⟨h1, rfl⟩ := List.getElem?_eq_some_iff.1 hx
    exact (hc j h1).2
  · rintro e w' ⟨rfl, hb⟩
    refine ⟨?_, Kp.ofBelow hb⟩
    rw [hl]
    unfold joinS
    rw [hJ]
    rfl
set_option maxRecDepth 100000 in
set_option maxHeartbeats 800000 in
theorem join_any (v : Value) (l : List ByteArray) (B : Nat) (w : World) (hS : Sl Value.string B w v l) (hB : B ≤ w.heap.size) :
    Calls Tryz.prog 60 #[v] w fun e w' => e = .returned (.tuple #[.string (joinS l), .int .i64 (joinE l)]) ∧ Kp none' w w' := by
  obtain ⟨a, c, rfl, hlc, hcm, ha⟩ := hS
  unfold maxLen at hcm
  by_cases hl : l.length = 4
  · obtain ⟨bk, o, rfl, _, hzz⟩ := ha 0 (by omega)
    clear hzz
    have HC : Hid (∀ i (h : i < l.length), bk < w.heap.size ∧ w.cell? ⟨bk, o + i, none⟩ = some (.string l[i])) := fun i hi => by
      obtain ⟨b', o', e, hb, hc⟩ := ha i hi
      cases e
      exact ⟨by omega, hc⟩
    obtain ⟨S, HS⟩ : ∃ S, Hid (joinS l = S) := ⟨_, rfl⟩
    obtain ⟨E, HE⟩ : ∃ E, Hid (joinE l = E) := ⟨_, rfl⟩
    rw [HS.out, HE.out]
    have hne : ((l.length : Int) != 4) = false := by simp [hl]
    have HL : Hid (l.length = 4) := hl
    have hli : (l.length : Int) ≤ 4 := by omega
    have Hcap := hide hlc
    clear hl ha
    go_enter Tryz.func60, Tryz.ntmps60
    go_wp2
    go_loopw [11] (fun t wr => ∃ k : Nat, k ≤ l.length ∧ t = .int .i64 k ∧ Hid (∀ s ∈ l.take k, s.size = 64) ∧ wr = w) (fun t _ => l.length - (intOf t).toNat)
    case atStart => exact ⟨0, Nat.zero_le _, rfl, hide (by simp), rfl⟩
    case round =>
      obtain ⟨k, hk, rfl, HA, rfl⟩ := hrel
      by_cases hlt : k < l.length
      · have hcc := (HC.out k hlt).2
        have hk' : (k : Int) < (l.length : Int) := by omega
        have HB := hide (okJ_bad (l := l) hlt)
        have HM : Hid (l[k].size = 64 → ∀ s ∈ l.take (k + 1), s.size = 64) := by
          intro h s hs
          rw [List.take_succ_eq_append_getElem hlt] at hs
          rcases List.mem_append.1 hs with hs | hs
          · exact HA.out s hs
          · simp at hs; subst hs; exact h
        generalize l[k] = x at hcc HB HM
        by_cases hx : x.size = 64
        · have hx' : ((x.size : Int) != 64) = false := by simp [hx]
          have HR := hide (HM.out hx)
          clear hx
          go_wp2
          go_roundw
          case rel => exact ⟨k + 1, by omega, by go_num, HR, trivial⟩
          case measure => simp [intOf]; omega
        · have hx' : ((x.size : Int) != 64) = true := by simp; omega
          have hb := hide (HB.out hx)
          clear hx
          go_wp2
          go_ret2
          rw [← HS.out, ← HE.out]
          refine ⟨?_, Kp.refl _ _⟩
          unfold joinS joinE
          rw [hb.out]
          rfl
      · have hb : Hid (okJ l = true) := by
          have h := HA.out
          rw [List.take_of_length_le (by omega)] at h
          show _ = _
          unfold okJ
          simp only [decide_eq_true_eq]
          exact ⟨HL.out, h⟩
        go_wp2_with (go_at_call 69; refine (strJoin bk o c l _ HC.out Hcap.out hb.out).mono ?_; rintro e w2 ⟨rfl, hk2⟩)
        go_ret2
        rw [← HS.out, ← HE.out]
        refine ⟨?_, hk2⟩
        unfold joinE
        rw [hb.out]
        rfl
  · have hb : okJ l = false := by unfold okJ; simp [hl]
    have hE : joinE l = 1 := by simp [joinE, hb]
    have hB : joinS l = ⟨#[]⟩ := by unfold joinS; rw [hb]; rfl
    rw [hE, hB]
    have hne : ((l.length : Int) != 4) = true := by simp; omega
    clear ha hE hB hl hb
    go_enter Tryz.func60, Tryz.ntmps60
    go_wp2
    go_ret2
    exact ⟨rfl, Kp.refl _ _⟩

end Go.Proofs.YtgfijbbibafdfaaGreat
