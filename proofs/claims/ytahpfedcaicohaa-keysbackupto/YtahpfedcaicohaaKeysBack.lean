/- KeysBack: for all tuples and bytes that together hold at most 1048576 values and letters, the law KeysBack returns true and leaves its arguments as they were: what is written is read again; what is read is just what is written. The condition is the second form's own bound. -/
import Derived.Test.YtahpfedcaicohaaRows
import Derived.Test.YtahpfedcaicohaaKOpen
import Derived.Test.YtahpfedcaicohaaKRefRead
import Derived.Test.YtahpfedcaicohaaKLives
import Derived.OpenShut
import Derived.ShutString
import Derived.ChangeOld
import Derived.Below
import Derived.JoinedCond
namespace Go.Proofs.Ytahpfedcaicohaa.keysBack
open Go.ChangeShapes Go.WideShapes Go.ChangeAt Go.RowKit Go.Joins
open Go.ChangeMaps (open_string shut_string)
set_option linter.unusedVariables false

theorem own : ownKnob Try.prog.godebug = none := by kernel_rfl
theorem laidOut : laidOutB Try.prog = true := by kernel_rfl

theorem second (s : ByteArray) (w : World) (hs : s.size ≤ 1099511627776) :
    Calls Try.prog 12 #[.string s] w fun e w' => ∃ v l er, e = .returned (.tuple #[v, .int .i64 er]) ∧ Tup w' v l ∧ (∀ x ∈ l, x.wf) ∧ (encL l).length ≤ 1099511627776 ∧ ((er = 0 ∧ wrE l = 0 ∧ (⟨(wrB l).toArray⟩ : ByteArray) = s) ∨ (er != 0) = true) ∧ w.grownBy w' none := by
  have e : s.data.toList.length = s.size := by rw [Array.length_toList]; rfl
  refine (read_any s w hs).mono ?_
  rintro x w' ⟨v, er, rfl, hT, hg⟩
  cases hp : pRead s.data.toList with
  | error e0 =>
    rw [hp] at hT
    obtain ⟨rfl, rfl⟩ := hT
    refine ⟨_, [], _, rfl, Tup.nil _, by simp, by simp [encL], .inr ?_, hg⟩
    rcases pRead_errs _ _ hp with rfl | rfl <;> rfl
  | ok l =>
    rw [hp] at hT
    obtain ⟨rfl, ho⟩ := hT
    obtain ⟨h1, h2, h3, h4⟩ := pRead_back _ (by rw [e]; unfold maxLen; omega) l hp
    refine ⟨_, l, _, rfl, ho.tup, h3, by rw [h1, e]; exact hs, .inl ⟨rfl, ?_, ?_⟩, hg⟩
    · unfold wrE; rw [h2]; rfl
    · unfold wrB; rw [h2]; simp only [if_true]; rw [h1]

set_option maxRecDepth 100000 in
set_option maxHeartbeats 400000 in
theorem walk (v : Value) (l : List V) (s : ByteArray) (w : World) (hT : Tup w v l) (hwf : ∀ x ∈ l, x.wf) (hl : (encL l).length ≤ 1099511627776) (hs : s.size ≤ 1099511627776) :
    Calls Try.prog 5 #[v, .string s] w fun e w' => e = .returned (.bool true) ∧ w.grownBy w' none := by
  have Hl : Hid ((encL l).length ≤ 1099511627776) := hl
  have Hw : Hid (∀ x ∈ l, x.wf) := hwf
  have Hs : Hid (s.size ≤ 1099511627776) := hs
  have Hr : Hid ((⟨(wrB l).toArray⟩ : ByteArray).size ≤ 1099511627776) := by
    show (wrB l).toArray.size ≤ _
    rw [List.size_toArray]
    unfold wrB
    split
    · exact hl
    · simp
  clear hl hwf hs
  obtain ⟨B, HB⟩ : ∃ B : ByteArray, Hid ((⟨(wrB l).toArray⟩ : ByteArray) = B) := ⟨_, rfl⟩
  rw [HB.out] at Hr
  go_enter Try.func5, Try.ntmps5
  go_wp2_with fail
  refine (klives_any _).mono ?_
  rintro e w1 ⟨rfl, hg1⟩
  have hT1 := hT.keptN hg1
  go_wp2_with fail
  refine (write_any _ _ _ hT1 Hw.out Hl.out).mono ?_
  rintro e w2 ⟨rfl, hg2⟩
  have hT2 := hT1.keptN hg2
  rw [HB.out]
  go_wp2_with fail
  refine (read_any _ _ Hr.out).mono ?_
  rintro e w3 ⟨v3, er3, rfl, hT3, hg3⟩
  have hv := hT2.keptN hg3
  by_cases hok : l.all okV = true
  · have HE : Hid (wrE l = 0) := by show _ = _; unfold wrE; rw [hok]; rfl
    have hp : pRead B.data.toList = .ok l := by
      rw [← HB.out]
      show pRead (wrB l) = _
      unfold wrB
      rw [hok]
      exact pRead_enc l Hw.out hok
    rw [hp] at hT3
    obtain ⟨rfl, ho3⟩ := hT3
    have hv3 := ho3.tup
    rw [HE.out]
    clear hp ho3 hok
    go_wp2_with (first
      | (go_at_call 14; refine (same_any _ _ _ _ _ hv3 hv).mono ?_; rintro e w4 ⟨⟨b, rfl, hb⟩, hg4⟩; obtain rfl : b = true := hb.2 rfl)
      | fail)
    refine (second s _ Hs.out).mono ?_
    rintro e w5 ⟨v5, l5, er5, rfl, hT5, hw5, hl5, hor, hg5⟩
    have Hw5 : Hid (∀ x ∈ l5, x.wf) := hw5
    have Hl5 : Hid ((encL l5).length ≤ 1099511627776) := hl5
    have HG : Hid (w.grownBy w5 none) := grown_up (grown_up (grown_up (grown_up hg1 hg2) hg3) hg4) hg5
    clear hg1 hg2 hg3 hg4 hg5 hw5 hl5
    go_wp2_with fail
    refine (write_any _ _ _ hT5 Hw5.out Hl5.out).mono ?_
    rintro e w6 ⟨rfl, hg6⟩
    rcases hor with ⟨rfl, h6, h7⟩ | h6
    · rw [h6, h7]
      go_wp2
      go_ret
      exact ⟨rfl, grown_up HG.out hg6⟩
    · generalize (⟨(wrB l5).toArray⟩ : ByteArray) = B5
      generalize wrE l5 = E5
      go_wp2
      go_ret
      exact ⟨rfl, grown_up HG.out hg6⟩
  · have HE : Hid (wrE l = 6) := by show _ = _; unfold wrE; simp only [hok]; rfl
    rw [HE.out]
    clear hok hT3
    go_wp2_with fail
    refine (second s _ Hs.out).mono ?_
    rintro e w5 ⟨v5, l5, er5, rfl, hT5, hw5, hl5, hor, hg5⟩
    have Hw5 : Hid (∀ x ∈ l5, x.wf) := hw5
    have Hl5 : Hid ((encL l5).length ≤ 1099511627776) := hl5
    have HG : Hid (w.grownBy w5 none) := grown_up (grown_up (grown_up hg1 hg2) hg3) hg5
    clear hg1 hg2 hg3 hg5 hw5 hl5
    go_wp2_with fail
    refine (write_any _ _ _ hT5 Hw5.out Hl5.out).mono ?_
    rintro e w6 ⟨rfl, hg6⟩
    rcases hor with ⟨rfl, h6, h7⟩ | h6
    · rw [h6, h7]
      go_wp2
      go_ret
      exact ⟨rfl, grown_up HG.out hg6⟩
    · generalize (⟨(wrB l5).toArray⟩ : ByteArray) = B5
      generalize wrE l5 = E5
      go_wp2
      go_ret
      exact ⟨rfl, grown_up HG.out hg6⟩

theorem bound {H : Type} {l : List (DataW H)} (hk : Rows.uptoSmall H l = true) : Rows.uptoBulkAll l ≤ 1048576 := of_decide_eq_true hk

theorem contract (H : Type) (enc : TypeId × Value → H) (W : World) (base : Nat) (args : Array Value) (ds gs : List (DataW H)) (before : List MemPlace)
    (hval : ∀ (j : Nat) t v, Try.f5.params[j]? = some t → args[j]? = some v → Value.okWide Try.prog W .any base t v)
    (hW : DataW.Whole enc Try.prog Try.f5.params.toList Rows.keysBackSpec.vars false W args.toList ds gs before) (hk : Rows.uptoSmall H (ds ++ gs) = true) :
    Calls Try.prog 5 args W fun e W' => ∃ v, e = .returned v ∧ Rows.keysBackSpec.post enc Try.prog Try.f5 false true false false W args v W' := by
  have hW' := hW
  obtain ⟨p, q, hA0, hV, rfl, hfz, hnd⟩ := hW
  have hA : DataW.TrodAll enc Try.prog W 0 (fun _ => true) true Try.f5.params.toList args.toList ds p := hA0
  rw [Try.params5] at hA hval
  obtain ⟨v0, vs0, d0, ds0, p0, q0, hargs, rfl, rfl, h0, r0⟩ := trodAll_cons hA
  obtain ⟨v1, vs1, d1, ds1, p1, q1, rfl, rfl, rfl, h1, r1⟩ := trodAll_cons r0
  obtain ⟨rfl, rfl, rfl⟩ := trodAll_nil r1
  obtain rfl : args = #[v0, v1] := by cases args; simp_all
  obtain ⟨rfl, rfl⟩ := trodVars_none hV
  have k0 := h0
  have lt0 : ∀ x ∈ p0, x.block < W.heap.size := by obtain ⟨m, hm⟩ := k0; exact DataW.trod_lt m _ _ _ hm
  obtain ⟨a0, len0, cap0, rfl⟩ := okWide_slice Try.underlying22 (hval 0 22 v0 rfl rfl)
  obtain ⟨s0, rfl, rfl, rfl, hs⟩ := open_string Try.underlying9 (hval 1 9 v1 rfl rfl) h1
  clear hA0
  obtain ⟨l, hT, hwf, hbk⟩ := open_vals h0
  have h1 := bound hk
  have e : s0.data.toList.length = s0.size := by rw [Array.length_toList]; rfl
  simp only [List.append_nil, Rows.uptoBulkAll, Rows.uptoBulk, e] at h1
  have h2 := encL_bulk l
  refine (walk _ l s0 W hT hwf (by omega) (by omega)).mono fun e W' ⟨he, hg⟩ => ?_
  subst he
  have bel : Below W.heap.size W W' := (Below.refl _ W).grown hg (Nat.le_refl _) (by simp)
  exact ⟨_, rfl, _, _, _, [], _, [], hW', trodAll_mk1 (shut_bool Try.underlying4 _), (trodAll_cons_mk (Below.trod laidOut (by kernel_rfl) (of_decide_eq_true (by kernel_rfl)) k0 bel lt0) (trodAll_cons_mk (shut_string Try.underlying9 hs) trodAll_mk0)), rfl, bel.frame _, fun h => by cases h⟩

set_option maxRecDepth 100000 in
theorem lifted (os : Os) (started : os.Started) (H : Type) (enc : TypeId × Value → H) (F : Stop.Interp) :
    ReturnsInHanded {} Try.checked os 5 .any ((Rows.OpenSpec.upto Rows.keysBackSpec).pre6 enc Try.prog Try.f5 Rows.keysBackUptoRow.domain false) (((Rows.OpenSpec.upto Rows.keysBackSpec).at F).post enc Try.prog Try.f5 false true false false) := by
  refine returnsInHanded_of_cond (C := Try.checked) (s := Rows.OpenSpec.upto Rows.keysBackSpec) (k := Rows.uptoSmall) rfl own started (by kernel_rfl) Try.func5
    (OpenSpec.witness (enc := enc) (C := Try.checked) (s := Rows.OpenSpec.upto Rows.keysBackSpec) (k := Rows.uptoSmall) rfl false ⟨#[], #[.slice none 0 0, .string ByteArray.empty], []⟩ 8 (by kernel_rfl) (by kernel_rfl) (by kernel_rfl)
      (x := ([.nil, .lit (.string [])], [], [])) (by kernel_rfl) rfl (by kernel_rfl)) ?_
  intro W base args ds gs before hval hW _ hk _
  exact contract H enc W base args ds gs before hval hW hk

theorem over : Rows.keysBackUptoRow.holds Try.pinned (Rows.OpenSpec.upto Rows.keysBackSpec) :=
  OpenClaim.holds_of_cond 5 Try.f5 rfl rfl rfl rfl rfl rfl rfl ⟨rfl, rfl, rfl, rfl, rfl⟩ rfl rfl rfl rfl rfl (by kernel_rfl) Try.func5 (by kernel_rfl)
    (of_decide_eq_true (by kernel_rfl)) (by unfold Func.isWrapper; first | (rw [if_pos (by decide +kernel)]; kernel_rfl) | (rw [if_neg (by decide +kernel)]; exact ⟨rfl, rfl⟩))
    (fun os started H enc _ F => lifted os started H enc F)
end Go.Proofs.Ytahpfedcaicohaa.keysBack
namespace Go.Proofs.Ytahpfedcaicohaa
theorem keysBackUpto_holds : Rows.KeysBackUptoSaid := keysBack.over
#print axioms keysBackUpto_holds
end Go.Proofs.Ytahpfedcaicohaa
