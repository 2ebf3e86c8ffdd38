/- KeysWrite: for all tuples that together hold at most 1048576 values and letters, the law KeysWrite returns true and leaves its argument as it was: what a tuple is as bytes, or that a value may not be, is what the document says. The condition is the second form's own bound. -/
import Derived.Test.YtahpfedcaicohaaRows
import Derived.Test.YtahpfedcaicohaaKOpen
import Derived.Test.YtahpfedcaicohaaKRef
import Derived.Test.YtahpfedcaicohaaKLives
import Derived.OpenShut
import Derived.ShutString
import Derived.ChangeOld
import Derived.Below
import Derived.JoinedCond
namespace Go.Proofs.Ytahpfedcaicohaa.keysWrite
open Go.ChangeShapes Go.WideShapes Go.ChangeAt Go.RowKit Go.Joins
set_option linter.unusedVariables false

theorem own : ownKnob Try.prog.godebug = none := by kernel_rfl
theorem laidOut : laidOutB Try.prog = true := by kernel_rfl

set_option maxRecDepth 100000 in
set_option maxHeartbeats 400000 in
theorem walk (v : Value) (l : List V) (w : World) (hT : Tup w v l) (hwf : ∀ x ∈ l, x.wf) (hl : (encL l).length ≤ 1099511627776) :
    Calls Try.prog 3 #[v] w fun e w' => e = .returned (.bool true) ∧ w.grownBy w' none := by
  have Hl : Hid ((encL l).length ≤ 1099511627776) := hl
  have Hw : Hid (∀ x ∈ l, x.wf) := hwf
  clear hl hwf
  obtain ⟨B, HB⟩ : ∃ B : ByteArray, Hid ((⟨(wrB l).toArray⟩ : ByteArray) = B) := ⟨_, rfl⟩
  obtain ⟨E, HE⟩ : ∃ E : Int, Hid (wrE l = E) := ⟨_, rfl⟩
  go_enter Try.func3, Try.ntmps3
  go_wp2_with (first
    | (go_at_call 9; refine (klives_any _).mono ?_; rintro e w1 ⟨rfl, hg1⟩; have hT1 := hT.keptN hg1)
    | (go_at_call 10; refine (write_any _ _ _ hT1 Hw.out Hl.out).mono ?_; rintro e w2 ⟨rfl, hg2⟩; rw [HB.out, HE.out]; have hT2 := hT1.keptN hg2)
    | (go_at_call 11; refine (rwrite_any _ _ _ hT2 Hw.out Hl.out).mono ?_; rintro e w3 ⟨rfl, hg3⟩; rw [HB.out, HE.out]))
  go_ret
  exact ⟨rfl, grown_up (grown_up hg1 hg2) hg3⟩

theorem bound {H : Type} {l : List (DataW H)} (hk : Rows.uptoSmall H l = true) : Rows.uptoBulkAll l ≤ 1048576 := of_decide_eq_true hk

theorem contract (H : Type) (enc : TypeId × Value → H) (W : World) (base : Nat) (args : Array Value) (ds gs : List (DataW H)) (before : List MemPlace)
    (hval : ∀ (j : Nat) t v, Try.f3.params[j]? = some t → args[j]? = some v → Value.okWide Try.prog W .any base t v)
    (hW : DataW.Whole enc Try.prog Try.f3.params.toList Rows.keysWriteSpec.vars false W args.toList ds gs before) (hk : Rows.uptoSmall H (ds ++ gs) = true) :
    Calls Try.prog 3 args W fun e W' => ∃ v, e = .returned v ∧ Rows.keysWriteSpec.post enc Try.prog Try.f3 false true false false W args v W' := by
  have hW' := hW
  obtain ⟨p, q, hA0, hV, rfl, hfz, hnd⟩ := hW
  have hA : DataW.TrodAll enc Try.prog W 0 (fun _ => true) true Try.f3.params.toList args.toList ds p := hA0
  rw [Try.params3] at hA hval
  obtain ⟨v0, vs0, d0, ds0, p0, q0, hargs, rfl, rfl, h0, r0⟩ := trodAll_cons hA
  obtain ⟨rfl, rfl, rfl⟩ := trodAll_nil r0
  obtain rfl : args = #[v0] := by cases args; simp_all
  obtain ⟨rfl, rfl⟩ := trodVars_none hV
  have k0 := h0
  have lt0 : ∀ x ∈ p0, x.block < W.heap.size := by obtain ⟨m, hm⟩ := k0; exact DataW.trod_lt m _ _ _ hm
  obtain ⟨a0, len0, cap0, rfl⟩ := okWide_slice Try.underlying22 (hval 0 22 v0 rfl rfl)
  clear hA0
  obtain ⟨l, hT, hwf, hbk⟩ := open_vals h0
  have h1 := bound hk
  simp only [List.append_nil, Rows.uptoBulkAll] at h1
  have h2 := encL_bulk l
  refine (walk _ l W hT hwf (by omega)).mono fun e W' ⟨he, hg⟩ => ?_
  subst he
  have bel : Below W.heap.size W W' := (Below.refl _ W).grown hg (Nat.le_refl _) (by simp)
  exact ⟨_, rfl, _, _, _, [], _, [], hW', trodAll_mk1 (shut_bool Try.underlying4 _), (trodAll_cons_mk (Below.trod laidOut (by kernel_rfl) (of_decide_eq_true (by kernel_rfl)) k0 bel lt0) trodAll_mk0), rfl, bel.frame _, fun h => by cases h⟩

set_option maxRecDepth 100000 in
theorem lifted (os : Os) (started : os.Started) (H : Type) (enc : TypeId × Value → H) (F : Stop.Interp) :
    ReturnsInHanded {} Try.checked os 3 .any ((Rows.OpenSpec.upto Rows.keysWriteSpec).pre6 enc Try.prog Try.f3 Rows.keysWriteUptoRow.domain false) (((Rows.OpenSpec.upto Rows.keysWriteSpec).at F).post enc Try.prog Try.f3 false true false false) := by
  refine returnsInHanded_of_cond (C := Try.checked) (s := Rows.OpenSpec.upto Rows.keysWriteSpec) (k := Rows.uptoSmall) rfl own started (by kernel_rfl) Try.func3
    (OpenSpec.witness (enc := enc) (C := Try.checked) (s := Rows.OpenSpec.upto Rows.keysWriteSpec) (k := Rows.uptoSmall) rfl false ⟨#[], #[.slice none 0 0], []⟩ 8 (by kernel_rfl) (by kernel_rfl) (by kernel_rfl)
      (x := ([.nil], [], [])) (by kernel_rfl) rfl (by kernel_rfl)) ?_
  intro W base args ds gs before hval hW _ hk _
  exact contract H enc W base args ds gs before hval hW hk

theorem over : Rows.keysWriteUptoRow.holds Try.pinned (Rows.OpenSpec.upto Rows.keysWriteSpec) :=
  OpenClaim.holds_of_cond 3 Try.f3 rfl rfl rfl rfl rfl rfl rfl ⟨rfl, rfl, rfl, rfl, rfl⟩ rfl rfl rfl rfl rfl (by kernel_rfl) Try.func3 (by kernel_rfl)
    (of_decide_eq_true (by kernel_rfl)) (by unfold Func.isWrapper; first | (rw [if_pos (by decide +kernel)]; kernel_rfl) | (rw [if_neg (by decide +kernel)]; exact ⟨rfl, rfl⟩))
    (fun os started H enc _ F => lifted os started H enc F)
end Go.Proofs.Ytahpfedcaicohaa.keysWrite
namespace Go.Proofs.Ytahpfedcaicohaa
theorem keysWriteUpto_holds : Rows.KeysWriteUptoSaid := keysWrite.over
#print axioms keysWriteUpto_holds
end Go.Proofs.Ytahpfedcaicohaa
