/- Contracts, over the turned program: the reference's Write and Read of rows answer as the plain words say. Conditions: those that each theorem states. -/
import Derived.Test.YtiledkdoabdnnaaRRef
import Derived.Test.YtiledkdoabdnnaaRRead
import Derived.Test.YtiledkdoabdnnaaKRefRead
namespace Go.Proofs.Ytiledkdoabdnnaa
open Go.RowKit
set_option linter.unusedVariables false

theorem encR_stepd (l : List V) (j : Nat) (h1 : 1 ≤ j) (h2 : j < l.length) : encR ((l.drop 1).take (j + 1 - 1)) = encR ((l.drop 1).take (j - 1)) ++ encF l[j] := by
  have h3 : j - 1 < (l.drop 1).length := by rw [List.length_drop]; omega
  have h := encR_step (l.drop 1) (j - 1) h3
  have e : (l.drop 1)[j - 1] = l[j] := by rw [List.getElem_drop]; congr 1; omega
  rw [e] at h
  rw [show j + 1 - 1 = j - 1 + 1 by omega]
  exact h

set_option maxRecDepth 100000 in
set_option maxHeartbeats 800000 in
theorem rrowsWrite_any (kv : Value) (ks : List Int) (u x : Int) (v : Value) (l : List V) (w : World) (hK : Kd w kv ks) (hT : Tup w v l) (hwf : ∀ y ∈ l, y.wf) :
    Calls Try.prog 17 #[sval kv u x, v] w fun e w' => e = .returned (.tuple #[.string ⟨(rowK ks u x l).toArray⟩, .string ⟨(rowR ks u x l).toArray⟩, .int .i64 (fitE ks u x l)]) ∧ w.grownBy w' none := by
  have hga := World.grownBy_alloc w (.cells #[kv, .int .i64 u, .int .i64 x] 24) none
  have hKa := hK.keptN hga
  have hTa := hT.keptN hga
  rcases fitE_cases ks u x l with hE | hE
  · have hS := Sb.new w kv u x
    obtain ⟨y, r, hl, hys, hyo, hl4, hfy⟩ := fitE_first hE
    obtain ⟨B, HB⟩ : ∃ B : ByteArray, Hid ((⟨(rowK ks u x l).toArray⟩ : ByteArray) = B) := ⟨_, rfl⟩
    obtain ⟨R, HR⟩ : ∃ R : ByteArray, Hid ((⟨(rowR ks u x l).toArray⟩ : ByteArray) = R) := ⟨_, rfl⟩
    rw [HB.out, HR.out, hE]
    have HKY : Hid ((⟨(keyB ks u x y).toArray⟩ : ByteArray) = B ∧ keyE ks u x y = 0) := by
      have e0 : keyE ks u x y = 0 := by unfold keyE; rw [(fitE_ok hE).1, hfy]; rfl
      refine ⟨?_, e0⟩
      rw [← HB.out]
      unfold keyB rowK
      rw [if_pos e0, if_pos hE, hl]
      simp [encL]
    have HRR : Hid (R = mkB (encR (l.drop 1))) := by show _ = _; rw [← HR.out]; unfold rowR; rw [if_pos hE]; rfl
    have Hy : Hid (y.wf) := hwf y (by rw [hl]; simp)
    have Hl4 : Hid (l.length ≤ 4) := hl4
    have Hwf : Hid (∀ y ∈ l, y.wf) := hwf
    have hl1 : 1 ≤ l.length := by rw [hl]; simp
    have Hl0 : Hid (∀ h : 0 < l.length, l[0] = y) := by intro h; subst hl; rfl
    unfold sval
    clear hys hyo hl4 hfy hl hwf
    go_enter Try.func17, Try.ntmps17
    go_wp2_with fail
    refine (rfits_row kv ks u x v l _ hKa hTa Hwf.out).mono ?_
    rintro e w1 ⟨rfl, hg1⟩
    rw [hE]
    have hT1 := hTa.keptN hg1
    have hS1 := hS.keptN hg1
    have hK1 := hKa.keptN hg1
    obtain ⟨a, c, rfl, hc, hm, hL⟩ := hT1
    have hlm : l.length ≤ maxLen := Nat.le_trans hc hm
    unfold maxLen at hlm
    have hgg := grown_up hga hg1
    have HL : Hid (∀ i (h : i < l.length), ∃ b off, a = some ⟨b, off, none⟩ ∧ b < w1.heap.size ∧
      w1.cell? ⟨b, off + i * 3, none⟩ = some (.int .i64 l[i].k) ∧ w1.cell? ⟨b, off + i * 3 + 1, none⟩ = some (.int .i64 l[i].n) ∧ w1.cell? ⟨b, off + i * 3 + 2, none⟩ = some (.string l[i].s)) := hL
    obtain ⟨b, off, rfl, hb, c0, c1, c2⟩ := hL 0 hl1
    rw [Hl0.out] at c0 c1 c2
    have s0 : ∀ W : World, w1.grownBy W none → W.cell? ⟨w.heap.size, 0, none⟩ = some kv := fun W h => (hS1.keptN h).c0
    have s1 : ∀ W : World, w1.grownBy W none → W.cell? ⟨w.heap.size, 1, none⟩ = some (.int .i64 u) := fun W h => (hS1.keptN h).c1
    have s2 : ∀ W : World, w1.grownBy W none → W.cell? ⟨w.heap.size, 2, none⟩ = some (.int .i64 x) := fun W h => (hS1.keptN h).c2
    have d0 : ∀ W : World, w1.grownBy W none → W.cell? ⟨b, off, none⟩ = some (.int .i64 y.k) := fun W h => (grown_cell h hb _).trans c0
    have d1 : ∀ W : World, w1.grownBy W none → W.cell? ⟨b, off + 1, none⟩ = some (.int .i64 y.n) := fun W h => (grown_cell h hb _).trans c1
    have d2 : ∀ W : World, w1.grownBy W none → W.cell? ⟨b, off + 2, none⟩ = some (.string y.s) := fun W h => (grown_cell h hb _).trans c2
    have dr : w1.grownBy w1.drew none := ⟨rfl, rfl, rfl, Nat.le_refl _, fun _ _ _ => rfl⟩
    have hl0 : (0 : Int) < (l.length : Int) := by omega
    clear hL c0 c1 c2 hTa hT hKa hK hga hg1 hS hS1 hc hm hb
    generalize w.heap.size = g at *
    go_upto_region 4 with fail
    go_region_held_law (fun w' => w1.grownBy w' none) (first | assumption | exact dr) (first
      | (go_at_call 11; refine (rkey_any kv ks u x y _ (hK1.keptN (by assumption)) Hy.out).mono ?_; rintro e w2 ⟨rfl, hg2⟩; rw [HKY.out.1, HKY.out.2]; have S2 : w1.grownBy w2 none := grown_up (by assumption) hg2))
    have hl1' : (1 : Int) ≤ (l.length : Int) := by omega
    clear s0 s1 s2 d0 d1 d2 dr
    go_wp2_with fail
    go_loopw [10, 11] (fun t i wr => ∃ (j : Nat) (A : ByteArray), 1 ≤ j ∧ j ≤ l.length ∧ i = .int .i64 j ∧ t = .string A ∧ Hid (A = mkB (encR ((l.drop 1).take (j - 1)))) ∧ w1.grownBy wr none) (fun _ i _ => l.length - (intOf i).toNat)
    case atStart => exact ⟨1, _, Nat.le_refl _, hl1, rfl, rfl, rfl, S2⟩
    case round =>
      clear S2
      obtain ⟨j, A, hj1, hj, rfl, rfl, HA, hg⟩ := hrel
      by_cases hlt : j < l.length
      · obtain ⟨b', off', hbe, hb, c0, c1, c2⟩ := HL.out j hlt
        cases hbe
        rw [← cell_same (hg.block b hb (by simp))] at c0 c1 c2
        have hwx : Hid (l[j].s.size ≤ maxLen) := (Hwf.out l[j] (List.getElem_mem hlt)).s0
        have Htk : Hid (encR ((l.drop 1).take (j + 1 - 1)) = encR ((l.drop 1).take (j - 1)) ++ encF l[j]) := encR_stepd l j hj1 hlt
        have HAs : Hid (A.size ≤ 1024) := by
          have h1 := encR_le ((l.drop 1).take (j - 1))
          have h2 : ((l.drop 1).take (j - 1)).length ≤ 4 := by rw [List.length_take, List.length_drop]; have := Hl4.out; omega
          show _ ≤ _
          rw [HA.out, mkB_size]
          omega
        have HFs : Hid ((encF l[j]).length ≤ 256) := encF_le _
        have hji : (j : Int) < (l.length : Int) := by omega
        generalize l[j] = z at *
        by_cases hk : z.k = 1
        · have hk' : (z.k == 1) = true := by simp [hk]
          have HF : Hid (encF z = be (uN z.n) (wid 8)) := by show _ = _; unfold encF; rw [if_pos hk, wid8]
          have HU : Hid (IntKind.u64.wrap z.n = (uN z.n : Int)) := uN_wrap z.n
          clear hk
          go_wp2_with fail
          rw [HU.out]
          refine (rfnum_any (uN z.n) 8 _ (uN_lt _)).mono ?_
          rintro e w3 ⟨rfl, hg3⟩
          obtain ⟨S, HS⟩ : ∃ S : ByteArray, Hid ((⟨(be (uN z.n) (wid 8)).toArray⟩ : ByteArray) = S) := ⟨_, rfl⟩
          rw [HS.out]
          have hS : ¬ 9223372036854775807 < A.size + S.size := by
            have h1 := HAs.out
            have h2 := HFs.out
            have h3 : S.size = (encF z).length := by rw [HF.out, ← HS.out]; exact mkB_size _
            omega
          have hg4 := grown_up hg hg3
          go_wp2_with fail
          go_roundw
          case rel => exact ⟨j + 1, _, by omega, by omega, by go_num, rfl, by show _ = _; rw [Htk.out, HF.out, HA.out, ← HS.out]; exact mkB_append _ _, hg4⟩
          case measure => simp [intOf]; omega
        · have hk' : (z.k == 1) = false := by simp [hk]
          have HF : Hid (encF z = strB z.s.data.toList) := by show _ = _; unfold encF; rw [if_neg hk]
          clear hk
          go_wp2_with fail
          refine (rfstr_any z.s _ hwx.out).mono ?_
          rintro e w3 ⟨rfl, hg3⟩
          obtain ⟨S, HS⟩ : ∃ S : ByteArray, Hid ((⟨(strB z.s.data.toList).toArray⟩ : ByteArray) = S) := ⟨_, rfl⟩
          rw [HS.out]
          have hS : ¬ 9223372036854775807 < A.size + S.size := by
            have h1 := HAs.out
            have h2 := HFs.out
            have h3 : S.size = (encF z).length := by rw [HF.out, ← HS.out]; exact mkB_size _
            omega
          have hg4 := grown_up hg hg3
          go_wp2_with fail
          go_roundw
          case rel => exact ⟨j + 1, _, by omega, by omega, by go_num, rfl, by show _ = _; rw [Htk.out, HF.out, HA.out, ← HS.out]; exact mkB_append _ _, hg4⟩
          case measure => simp [intOf]; omega
      · have hji : ¬ (j : Int) < (l.length : Int) := by omega
        have ej : (l.drop 1).take (j - 1) = l.drop 1 := List.take_of_length_le (by rw [List.length_drop]; omega)
        rw [ej] at HA
        clear ej
        go_wp2
        go_ret3
        rw [HRR.out, ← HA.out]
        exact ⟨rfl, grown_up hgg hg⟩
  · obtain ⟨E, HE⟩ : ∃ E : Int, Hid (fitE ks u x l = E) := ⟨_, rfl⟩
    rw [HE.out] at hE
    have hE0 : E ≠ 0 := by simpa using hE
    have H1 : Hid (rowK ks u x l = [] ∧ rowR ks u x l = []) := by
      unfold rowK rowR
      exact ⟨by rw [if_neg (by rw [HE.out]; exact hE0)], by rw [if_neg (by rw [HE.out]; exact hE0)]⟩
    rw [H1.out.1, H1.out.2, HE.out]
    unfold sval
    go_enter Try.func17, Try.ntmps17
    go_wp2_with fail
    refine (rfits_row kv ks u x v l _ hKa hTa hwf).mono ?_
    rintro e w1 ⟨rfl, hg1⟩
    rw [HE.out]
    go_wp2
    go_ret3
    exact ⟨rfl, grown_up hga hg1⟩

end Go.Proofs.Ytiledkdoabdnnaa
