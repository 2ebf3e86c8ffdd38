/- KeysOrder: for all tuples that together hold at most 1048576 values and letters, the law KeysOrder returns true and leaves its arguments as they were: bytes are ordered as tuples are; unlike tuples have unlike bytes. The condition is the second form's own bound. -/
import Derived.Test.YtahpfedcaicohaaRows
import Derived.Test.YtahpfedcaicohaaKOpen
import Derived.Test.YtahpfedcaicohaaKOrd
import Derived.Test.YtahpfedcaicohaaKLives
import Derived.OpenShut
import Derived.ShutString
import Derived.ChangeOld
import Derived.Below
import Derived.JoinedCond
namespace Go.Proofs.Ytahpfedcaicohaa.keysOrder
open Go.ChangeShapes Go.WideShapes Go.ChangeAt Go.RowKit Go.Joins
open Go.ChangeMaps (open_string shut_string)
set_option linter.unusedVariables false

theorem own : ownKnob Try.prog.godebug = none := by kernel_rfl
theorem laidOut : laidOutB Try.prog = true := by kernel_rfl

set_option maxRecDepth 100000 in
set_option maxHeartbeats 400000 in
theorem walk (v v' : Value) (a b : List V) (w : World) (hT : Tup w v a) (hT' : Tup w v' b) (ha : ∀ x ∈ a, x.wf) (hb : ∀ x ∈ b, x.wf) (hla : (encL a).length ≤ 1099511627776) (hlb : (encL b).length ≤ 1099511627776) :
    Calls Try.prog 6 #[v, v'] w fun e w' => e = .returned (.bool true) ∧ w.grownBy w' none := by
  have Hla : Hid ((encL a).length ≤ 1099511627776) := hla
  have Hlb : Hid ((encL b).length ≤ 1099511627776) := hlb
  have Ha : Hid (∀ x ∈ a, x.wf) := ha
  have Hb : Hid (∀ x ∈ b, x.wf) := hb
  clear hla hlb ha hb
  obtain ⟨A, HA⟩ : ∃ A : ByteArray, Hid ((⟨(wrB a).toArray⟩ : ByteArray) = A) := ⟨_, rfl⟩
  obtain ⟨C, HC⟩ : ∃ C : ByteArray, Hid ((⟨(wrB b).toArray⟩ : ByteArray) = C) := ⟨_, rfl⟩
  go_enter Try.func6, Try.ntmps6
  go_wp2_with fail
  refine (klives_any _).mono ?_
  rintro e w1 ⟨rfl, hg1⟩
  have hT1 := hT.keptN hg1
  have hT1' := hT'.keptN hg1
  go_wp2_with fail
  refine (write_any _ _ _ hT1 Ha.out Hla.out).mono ?_
  rintro e w2 ⟨rfl, hg2⟩
  have hT2 := hT1.keptN hg2
  have hT2' := hT1'.keptN hg2
  rw [HA.out]
  go_wp2_with fail
  refine (write_any _ _ _ hT2' Hb.out Hlb.out).mono ?_
  rintro e w3 ⟨rfl, hg3⟩
  have hT3 := hT2.keptN hg3
  have hT3' := hT2'.keptN hg3
  rw [HC.out]
  have HG : Hid (w.grownBy w3 none) := grown_up (grown_up hg1 hg2) hg3
  clear hT hT' hT1 hT1' hT2 hT2' hg1 hg2 hg3
  by_cases ka : a.all okV = true
  · have Ea : Hid (wrE a = 0) := by show _ = _; unfold wrE; rw [ka]; rfl
    rw [Ea.out]
    by_cases kb : b.all okV = true
    · have Eb : Hid (wrE b = 0) := by show _ = _; unfold wrE; rw [kb]; rfl
      rw [Eb.out]
      have As : A.toList = encL a := by rw [ByteArray.toList_eq, ← HA.out]; show wrB a = _; unfold wrB; rw [ka]; rfl
      have Cs : C.toList = encL b := by rw [ByteArray.toList_eq, ← HC.out]; show wrB b = _; unfold wrB; rw [kb]; rfl
      have hc := cmpB_encL a b Ha.out Hb.out ka kb
      have hl : Op.bytesLess A.toList C.toList = decide (cmpL a b < 0) := by rw [As, Cs, less_cmpB, hc]
      have hq : (A.toList == C.toList) = decide (cmpL a b = 0) := by
        rw [As, Cs, ← hc, Bool.eq_iff_iff, beq_iff_eq, decide_eq_true_iff, cmpB_zero]
      have hcc := cmpL_cases a b
      have Hfl : Hid (cmpL b a = - cmpL a b) := cmpL_flip a b
      obtain ⟨c, Hc⟩ : ∃ c : Int, Hid (cmpL a b = c) := ⟨_, rfl⟩
      rw [Hc.out] at hl hq hcc Hfl
      clear ka kb As Cs HA HC Ea Eb hc
      rcases hcc with rfl | rfl | rfl
      all_goals
        simp only [Int.reduceNeg, Int.reduceLT, Int.reduceEq, decide_true, decide_false] at hl hq Hfl
        go_wp2_with fail
        refine (compare_any _ _ _ _ _ hT3 hT3').mono ?_
        rintro e w4 ⟨rfl, hg4⟩
        rw [Hc.out]
        have hT4 := hT3.keptN hg4
        have hT4' := hT3'.keptN hg4
        go_wp2_with (go_at_call 15; refine (compare_any _ _ _ _ _ hT4' hT4).mono ?_; rintro e w5 ⟨rfl, hg5⟩; rw [Hfl.out])
        go_ret
        exact ⟨rfl, grown_up (grown_up HG.out hg4) hg5⟩
    · have Eb : Hid (wrE b = 6) := by show _ = _; unfold wrE; simp only [kb]; rfl
      rw [Eb.out]
      go_wp2
      go_ret
      exact ⟨rfl, HG.out⟩
  · have Ea : Hid (wrE a = 6) := by show _ = _; unfold wrE; simp only [ka]; rfl
    rw [Ea.out]
    generalize wrE b = E
    go_wp2
    go_ret
    exact ⟨rfl, HG.out⟩

theorem bound {H : Type} {l : List (DataW H)} (hk : Rows.uptoSmall H l = true) : Rows.uptoBulkAll l ≤ 1048576 := of_decide_eq_true hk

theorem contract (H : Type) (enc : TypeId × Value → H) (W : World) (base : Nat) (args : Array Value) (ds gs : List (DataW H)) (before : List MemPlace)
    (hval : ∀ (j : Nat) t v, Try.f6.params[j]? = some t → args[j]? = some v → Value.okWide Try.prog W .any base t v)
    (hW : DataW.Whole enc Try.prog Try.f6.params.toList Rows.keysOrderSpec.vars false W args.toList ds gs before) (hk : Rows.uptoSmall H (ds ++ gs) = true) :
    Calls Try.prog 6 args W fun e W' => ∃ v, e = .returned v ∧ Rows.keysOrderSpec.post enc Try.prog Try.f6 false true false false W args v W' := by
  have hW' := hW
  obtain ⟨p, q, hA0, hV, rfl, hfz, hnd⟩ := hW
  have hA : DataW.TrodAll enc Try.prog W 0 (fun _ => true) true Try.f6.params.toList args.toList ds p := hA0
  rw [Try.params6] at hA hval
  obtain ⟨v0, vs0, d0, ds0, p0, q0, hargs, rfl, rfl, h0, r0⟩ := trodAll_cons hA
  obtain ⟨v1, vs1, d1, ds1, p1, q1, rfl, rfl, rfl, h1, r1⟩ := trodAll_cons r0
  obtain ⟨rfl, rfl, rfl⟩ := trodAll_nil r1
  obtain rfl : args = #[v0, v1] := by cases args; simp_all
  obtain ⟨rfl, rfl⟩ := trodVars_none hV
  have k0 := h0
  have lt0 : ∀ x ∈ p0, x.block < W.heap.size := by obtain ⟨m, hm⟩ := k0; exact DataW.trod_lt m _ _ _ hm
  obtain ⟨a0, len0, cap0, rfl⟩ := okWide_slice Try.underlying22 (hval 0 22 v0 rfl rfl)
  have k1 := h1
  have lt1 : ∀ x ∈ p1, x.block < W.heap.size := by obtain ⟨m, hm⟩ := k1; exact DataW.trod_lt m _ _ _ hm
  obtain ⟨a1, len1, cap1, rfl⟩ := okWide_slice Try.underlying22 (hval 1 22 v1 rfl rfl)
  clear hA0
  obtain ⟨l, hT, hwf, hbk⟩ := open_vals h0
  obtain ⟨m, hT', hwf', hbk'⟩ := open_vals h1
  have h1 := bound hk
  simp only [List.append_nil, Rows.uptoBulkAll] at h1
  have h2 := encL_bulk l
  have h3 := encL_bulk m
  refine (walk _ _ l m W hT hT' hwf hwf' (by omega) (by omega)).mono fun e W' ⟨he, hg⟩ => ?_
  subst he
  have bel : Below W.heap.size W W' := (Below.refl _ W).grown hg (Nat.le_refl _) (by simp)
  exact ⟨_, rfl, _, _, _, [], _, [], hW', trodAll_mk1 (shut_bool Try.underlying4 _), (trodAll_cons_mk (Below.trod laidOut (by kernel_rfl) (of_decide_eq_true (by kernel_rfl)) k0 bel lt0) (trodAll_cons_mk (Below.trod laidOut (by kernel_rfl) (of_decide_eq_true (by kernel_rfl)) k1 bel lt1) trodAll_mk0)), rfl, bel.frame _, fun h => by cases h⟩

set_option maxRecDepth 100000 in
theorem lifted (os : Os) (started : os.Started) (H : Type) (enc : TypeId × Value → H) (F : Stop.Interp) :
    ReturnsInHanded {} Try.checked os 6 .any ((Rows.OpenSpec.upto Rows.keysOrderSpec).pre6 enc Try.prog Try.f6 Rows.keysOrderUptoRow.domain false) (((Rows.OpenSpec.upto Rows.keysOrderSpec).at F).post enc Try.prog Try.f6 false true false false) := by
  refine returnsInHanded_of_cond (C := Try.checked) (s := Rows.OpenSpec.upto Rows.keysOrderSpec) (k := Rows.uptoSmall) rfl own started (by kernel_rfl) Try.func6
    (OpenSpec.witness (enc := enc) (C := Try.checked) (s := Rows.OpenSpec.upto Rows.keysOrderSpec) (k := Rows.uptoSmall) rfl false ⟨#[], #[.slice none 0 0, .slice none 0 0], []⟩ 8 (by kernel_rfl) (by kernel_rfl) (by kernel_rfl)
      (x := ([.nil, .nil], [], [])) (by kernel_rfl) rfl (by kernel_rfl)) ?_
  intro W base args ds gs before hval hW _ hk _
  exact contract H enc W base args ds gs before hval hW hk

theorem over : Rows.keysOrderUptoRow.holds Try.pinned (Rows.OpenSpec.upto Rows.keysOrderSpec) :=
  OpenClaim.holds_of_cond 6 Try.f6 rfl rfl rfl rfl rfl rfl rfl ⟨rfl, rfl, rfl, rfl, rfl⟩ rfl rfl rfl rfl rfl (by kernel_rfl) Try.func6 (by kernel_rfl)
    (of_decide_eq_true (by kernel_rfl)) (by unfold Func.isWrapper; first | (rw [if_pos (by decide +kernel)]; kernel_rfl) | (rw [if_neg (by decide +kernel)]; exact ⟨rfl, rfl⟩))
    (fun os started H enc _ F => lifted os started H enc F)
end Go.Proofs.Ytahpfedcaicohaa.keysOrder
namespace Go.Proofs.Ytahpfedcaicohaa
theorem keysOrderUpto_holds : Rows.KeysOrderUptoSaid := keysOrder.over
#print axioms keysOrderUpto_holds
end Go.Proofs.Ytahpfedcaicohaa
