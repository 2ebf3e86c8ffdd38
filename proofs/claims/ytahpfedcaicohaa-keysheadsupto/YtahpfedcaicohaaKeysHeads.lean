/- KeysHeads: for all tuples that together hold at most 1048576 values and letters, the law KeysHeads returns true and leaves its arguments as they were: bytes begin with a tuple's bytes just where the tuple begins with it. The condition is the second form's own bound. -/
import Derived.Test.YtahpfedcaicohaaRows
import Derived.Test.YtahpfedcaicohaaKOpen
import Derived.Test.YtahpfedcaicohaaKRefRead
import Derived.Test.YtahpfedcaicohaaKLives
import Derived.OpenShut
import Derived.ShutString
import Derived.ChangeOld
import Derived.Below
import Derived.JoinedCond
namespace Go.Proofs.Ytahpfedcaicohaa.keysHeads
open Go.ChangeShapes Go.WideShapes Go.ChangeAt Go.RowKit Go.Joins
open Go.ChangeMaps (open_string shut_string)
set_option linter.unusedVariables false

theorem own : ownKnob Try.prog.godebug = none := by kernel_rfl
theorem laidOut : laidOutB Try.prog = true := by kernel_rfl

theorem heads_app (a : List V) : ∀ (b : List V) (r : List UInt8), (∀ x ∈ a, x.wf) → (∀ x ∈ b, x.wf) → a.all okV = true → b.all okV = true → encL b = encL a ++ r → ∃ c, b = a ++ c := by
  induction a with
  | nil => intro b r _ _ _ _ _; exact ⟨b, rfl⟩
  | cons x a ih =>
    intro b r ha hb ka kb h
    simp only [List.all_cons, Bool.and_eq_true] at ka
    have e : encL (x :: a) ++ r = encV x ++ (encL a ++ r) := by simp [encL]
    rw [e] at h
    have hx := pVal_enc x (encL a ++ r) (ha x (by simp)) ka.1
    cases b with
    | nil =>
      exfalso
      have h0 := congrArg List.length h
      have := List.length_pos_iff.2 (encV_ne x)
      simp [encL] at h0
      omega
    | cons y b =>
      simp only [List.all_cons, Bool.and_eq_true] at kb
      have e2 : encL (y :: b) = encV y ++ encL b := by simp [encL]
      rw [e2] at h
      have hy := pVal_enc y (encL b) (hb y (by simp)) kb.1
      rw [h, hx] at hy
      have hxy := Prod.mk.inj (Except.ok.inj hy)
      obtain ⟨c, hc⟩ := ih b r (fun z hz => ha z (by simp [hz])) (fun z hz => hb z (by simp [hz])) ka.2 kb.2 hxy.2.symm
      exact ⟨c, by rw [hc, ← hxy.1]; rfl⟩
/-- Bytes begin with a tuple's bytes just where the tuple begins with it. -/
theorem heads_iff (a b : List V) (ha : ∀ x ∈ a, x.wf) (hb : ∀ x ∈ b, x.wf) (ka : a.all okV = true) (kb : b.all okV = true) :
    ((encL a).length ≤ (encL b).length ∧ (encL b).take (encL a).length = encL a) ↔ (a.length ≤ b.length ∧ a = b.take a.length) := by
  constructor
  · rintro ⟨_, h⟩
    have h2 : encL b = encL a ++ (encL b).drop (encL a).length := by
      have := (List.take_append_drop (encL a).length (encL b)).symm
      rw [h] at this
      exact this
    obtain ⟨c, rfl⟩ := heads_app a b _ ha hb ka kb h2
    exact ⟨by simp, by simp⟩
  · rintro ⟨h1, h2⟩
    have e : encL b = encL a ++ encL (b.drop a.length) := by
      have h3 := List.take_append_drop a.length b
      rw [← h2] at h3
      rw [← encL_append, h3]
    rw [e]
    exact ⟨by simp, by simp⟩

set_option maxRecDepth 100000 in
set_option maxHeartbeats 400000 in
theorem walk (v v' : Value) (a b : List V) (w : World) (hT : Tup w v a) (hT' : Tup w v' b) (ha : ∀ x ∈ a, x.wf) (hb : ∀ x ∈ b, x.wf) (hla : (encL a).length ≤ 1099511627776) (hlb : (encL b).length ≤ 1099511627776) :
    Calls Try.prog 8 #[v, v'] w fun e w' => e = .returned (.bool true) ∧ w.grownBy w' none := by
  have Hla : Hid ((encL a).length ≤ 1099511627776) := hla
  have Hlb : Hid ((encL b).length ≤ 1099511627776) := hlb
  have Ha : Hid (∀ x ∈ a, x.wf) := ha
  have Hb : Hid (∀ x ∈ b, x.wf) := hb
  clear hla hlb ha hb
  obtain ⟨A, HA⟩ : ∃ A : ByteArray, Hid ((⟨(wrB a).toArray⟩ : ByteArray) = A) := ⟨_, rfl⟩
  obtain ⟨C, HC⟩ : ∃ C : ByteArray, Hid ((⟨(wrB b).toArray⟩ : ByteArray) = C) := ⟨_, rfl⟩
  go_enter Try.func8, Try.ntmps8
  go_wp2_with fail
  refine (klives_any _).mono ?_
  rintro e w1 ⟨rfl, hg1⟩
  have hT1 := hT.keptN hg1
  have hT1' := hT'.keptN hg1
  go_wp2_with fail
  refine (write_any _ _ _ hT1 Ha.out Hla.out).mono ?_
  rintro e w2 ⟨rfl, hg2⟩
  have hT2 := hT1.keptN hg2
  have hT2' := hT1'.keptN hg2
  rw [HA.out]
  go_wp2_with fail
  refine (write_any _ _ _ hT2' Hb.out Hlb.out).mono ?_
  rintro e w3 ⟨rfl, hg3⟩
  have hT3 := hT2.keptN hg3
  have hT3' := hT2'.keptN hg3
  rw [HC.out]
  have HG : Hid (w.grownBy w3 none) := grown_up (grown_up hg1 hg2) hg3
  clear hT hT' hT1 hT1' hT2 hT2' hg1 hg2 hg3
  by_cases ka : a.all okV = true
  · have Ea : Hid (wrE a = 0) := by show _ = _; unfold wrE; rw [ka]; rfl
    rw [Ea.out]
    by_cases kb : b.all okV = true
    · have Eb : Hid (wrE b = 0) := by show _ = _; unfold wrE; rw [kb]; rfl
      rw [Eb.out]
      have As : A.data.toList = encL a := by rw [← HA.out]; show wrB a = _; unfold wrB; rw [ka]; rfl
      have Cs : C.data.toList = encL b := by rw [← HC.out]; show wrB b = _; unfold wrB; rw [kb]; rfl
      have Al : A.size = (encL a).length := by rw [← As, Array.length_toList]; rfl
      have Cl : C.size = (encL b).length := by rw [← Cs, Array.length_toList]; rfl
      have Ab : A.size ≤ 1099511627776 := by rw [Al]; exact Hla.out
      have Cb : C.size ≤ 1099511627776 := by rw [Cl]; exact Hlb.out
      have HI : Hid ((A.size ≤ C.size ∧ (C.extract 0 A.size).toList = A.toList) ↔ (a.length ≤ b.length ∧ a = b.take a.length)) := by
        have h := heads_iff a b Ha.out Hb.out ka kb
        have e : (C.extract 0 A.size).toList = (encL b).take (encL a).length := by rw [ByteArray.toList_eq, ext_list, Cs, Al]; simp
        show _ ↔ _
        rw [e, ByteArray.toList_eq, As, Al, Cl]
        exact h
      clear ka kb As Cs Al Cl HA HC Ea Eb
      have hS := hT3
      have hS' := hT3'
      obtain ⟨a1, c1, rfl, hc1, hm1, hx1⟩ := hT3
      obtain ⟨a2, c2, rfl, hc2, hm2, hx2⟩ := hT3'
      clear hx1 hx2
      unfold maxLen at hm1 hm2
      have la : (a.length : Int) ≤ 9223372036854775807 := by omega
      have lb : (b.length : Int) ≤ 9223372036854775807 := by omega
      generalize hn : a.length = n at *
      generalize hm : b.length = m at *
      by_cases h1 : A.size ≤ C.size
      · have h1' : (A.size : Int) ≤ (C.size : Int) := by omega
        by_cases h2 : n ≤ m
        · have h2' : (n : Int) ≤ (m : Int) := by omega
          have hS2 : Tup w3 (.slice a2 n c2) (b.take n) := by
            rw [← hm] at hS' h2
            exact hS'.take n h2
          go_wp2_with (go_at_call 14; refine (same_any _ _ _ _ _ hS hS2).mono ?_; rintro e w4 ⟨⟨b0, rfl, hb0⟩, hg4⟩)
          go_ret
          refine ⟨congrArg (fun x => Ending.returned (Value.bool x)) ?_, grown_up HG.out hg4⟩
          have h := HI.out
          rw [beq_iff_eq, Bool.eq_iff_iff, beq_iff_eq, hb0]
          constructor
          · intro h3; exact (h.1 ⟨h1, h3⟩).2
          · intro h3; exact (h.2 ⟨h2, h3⟩).2
        · have h2' : ¬ (n : Int) ≤ (m : Int) := by omega
          have hF : ((C.extract 0 A.size).toList == A.toList) = false := by
            rw [beq_eq_false_iff_ne]
            intro h3
            exact h2 (HI.out.1 ⟨h1, h3⟩).1
          go_wp2
          go_ret
          exact ⟨rfl, HG.out⟩
      · have h1' : ¬ (A.size : Int) ≤ (C.size : Int) := by omega
        by_cases h2 : n ≤ m
        · have h2' : (n : Int) ≤ (m : Int) := by omega
          have hS2 : Tup w3 (.slice a2 n c2) (b.take n) := by
            rw [← hm] at hS' h2
            exact hS'.take n h2
          go_wp2_with (go_at_call 14; refine (same_any _ _ _ _ _ hS hS2).mono ?_; rintro e w4 ⟨⟨b0, rfl, hb0⟩, hg4⟩; obtain rfl : b0 = false := by (cases b0; rfl; exact absurd (HI.out.2 ⟨h2, hb0.1 rfl⟩).1 h1))
          go_ret
          exact ⟨rfl, grown_up HG.out hg4⟩
        · have h2' : ¬ (n : Int) ≤ (m : Int) := by omega
          go_wp2
          go_ret
          exact ⟨rfl, HG.out⟩
    · have Eb : Hid (wrE b = 6) := by show _ = _; unfold wrE; simp only [kb]; rfl
      rw [Eb.out]
      go_wp2
      go_ret
      exact ⟨rfl, HG.out⟩
  · have Ea : Hid (wrE a = 6) := by show _ = _; unfold wrE; simp only [ka]; rfl
    rw [Ea.out]
    generalize wrE b = E
    go_wp2
    go_ret
    exact ⟨rfl, HG.out⟩

theorem bound {H : Type} {l : List (DataW H)} (hk : Rows.uptoSmall H l = true) : Rows.uptoBulkAll l ≤ 1048576 := of_decide_eq_true hk

theorem contract (H : Type) (enc : TypeId × Value → H) (W : World) (base : Nat) (args : Array Value) (ds gs : List (DataW H)) (before : List MemPlace)
    (hval : ∀ (j : Nat) t v, Try.f8.params[j]? = some t → args[j]? = some v → Value.okWide Try.prog W .any base t v)
    (hW : DataW.Whole enc Try.prog Try.f8.params.toList Rows.keysHeadsSpec.vars false W args.toList ds gs before) (hk : Rows.uptoSmall H (ds ++ gs) = true) :
    Calls Try.prog 8 args W fun e W' => ∃ v, e = .returned v ∧ Rows.keysHeadsSpec.post enc Try.prog Try.f8 false true false false W args v W' := by
  have hW' := hW
  obtain ⟨p, q, hA0, hV, rfl, hfz, hnd⟩ := hW
  have hA : DataW.TrodAll enc Try.prog W 0 (fun _ => true) true Try.f8.params.toList args.toList ds p := hA0
  rw [Try.params8] at hA hval
  obtain ⟨v0, vs0, d0, ds0, p0, q0, hargs, rfl, rfl, h0, r0⟩ := trodAll_cons hA
  obtain ⟨v1, vs1, d1, ds1, p1, q1, rfl, rfl, rfl, h1, r1⟩ := trodAll_cons r0
  obtain ⟨rfl, rfl, rfl⟩ := trodAll_nil r1
  obtain rfl : args = #[v0, v1] := by cases args; simp_all
  obtain ⟨rfl, rfl⟩ := trodVars_none hV
  have k0 := h0
  have lt0 : ∀ x ∈ p0, x.block < W.heap.size := by obtain ⟨m, hm⟩ := k0; exact DataW.trod_lt m _ _ _ hm
  obtain ⟨a0, len0, cap0, rfl⟩ := okWide_slice Try.underlying22 (hval 0 22 v0 rfl rfl)
  have k1 := h1
  have lt1 : ∀ x ∈ p1, x.block < W.heap.size := by obtain ⟨m, hm⟩ := k1; exact DataW.trod_lt m _ _ _ hm
  obtain ⟨a1, len1, cap1, rfl⟩ := okWide_slice Try.underlying22 (hval 1 22 v1 rfl rfl)
  clear hA0
  obtain ⟨l, hT, hwf, hbk⟩ := open_vals h0
  obtain ⟨m, hT', hwf', hbk'⟩ := open_vals h1
  have h1 := bound hk
  simp only [List.append_nil, Rows.uptoBulkAll] at h1
  have h2 := encL_bulk l
  have h3 := encL_bulk m
  refine (walk _ _ l m W hT hT' hwf hwf' (by omega) (by omega)).mono fun e W' ⟨he, hg⟩ => ?_
  subst he
  have bel : Below W.heap.size W W' := (Below.refl _ W).grown hg (Nat.le_refl _) (by simp)
  exact ⟨_, rfl, _, _, _, [], _, [], hW', trodAll_mk1 (shut_bool Try.underlying4 _), (trodAll_cons_mk (Below.trod laidOut (by kernel_rfl) (of_decide_eq_true (by kernel_rfl)) k0 bel lt0) (trodAll_cons_mk (Below.trod laidOut (by kernel_rfl) (of_decide_eq_true (by kernel_rfl)) k1 bel lt1) trodAll_mk0)), rfl, bel.frame _, fun h => by cases h⟩

set_option maxRecDepth 100000 in
theorem lifted (os : Os) (started : os.Started) (H : Type) (enc : TypeId × Value → H) (F : Stop.Interp) :
    ReturnsInHanded {} Try.checked os 8 .any ((Rows.OpenSpec.upto Rows.keysHeadsSpec).pre6 enc Try.prog Try.f8 Rows.keysHeadsUptoRow.domain false) (((Rows.OpenSpec.upto Rows.keysHeadsSpec).at F).post enc Try.prog Try.f8 false true false false) := by
  refine returnsInHanded_of_cond (C := Try.checked) (s := Rows.OpenSpec.upto Rows.keysHeadsSpec) (k := Rows.uptoSmall) rfl own started (by kernel_rfl) Try.func8
    (OpenSpec.witness (enc := enc) (C := Try.checked) (s := Rows.OpenSpec.upto Rows.keysHeadsSpec) (k := Rows.uptoSmall) rfl false ⟨#[], #[.slice none 0 0, .slice none 0 0], []⟩ 8 (by kernel_rfl) (by kernel_rfl) (by kernel_rfl)
      (x := ([.nil, .nil], [], [])) (by kernel_rfl) rfl (by kernel_rfl)) ?_
  intro W base args ds gs before hval hW _ hk _
  exact contract H enc W base args ds gs before hval hW hk

theorem over : Rows.keysHeadsUptoRow.holds Try.pinned (Rows.OpenSpec.upto Rows.keysHeadsSpec) :=
  OpenClaim.holds_of_cond 8 Try.f8 rfl rfl rfl rfl rfl rfl rfl ⟨rfl, rfl, rfl, rfl, rfl⟩ rfl rfl rfl rfl rfl (by kernel_rfl) Try.func8 (by kernel_rfl)
    (of_decide_eq_true (by kernel_rfl)) (by unfold Func.isWrapper; first | (rw [if_pos (by decide +kernel)]; kernel_rfl) | (rw [if_neg (by decide +kernel)]; exact ⟨rfl, rfl⟩))
    (fun os started H enc _ F => lifted os started H enc F)
end Go.Proofs.Ytahpfedcaicohaa.keysHeads
namespace Go.Proofs.Ytahpfedcaicohaa
theorem keysHeadsUpto_holds : Rows.KeysHeadsUptoSaid := keysHeads.over
#print axioms keysHeadsUpto_holds
end Go.Proofs.Ytahpfedcaicohaa
