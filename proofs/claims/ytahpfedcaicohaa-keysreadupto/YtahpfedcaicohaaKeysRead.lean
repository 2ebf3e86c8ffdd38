/- KeysRead: for all bytes of at most 1048576 letters or so (the second form's own bound), the law KeysRead returns true and leaves its argument as it was: which tuple any bytes are, or the first error, is what the document says. -/
import Derived.Test.YtahpfedcaicohaaRows
import Derived.Test.YtahpfedcaicohaaKOpen
import Derived.Test.YtahpfedcaicohaaKRefRead
import Derived.Test.YtahpfedcaicohaaKLives
import Derived.OpenShut
import Derived.ShutString
import Derived.ChangeOld
import Derived.Below
import Derived.JoinedCond
namespace Go.Proofs.Ytahpfedcaicohaa.keysRead
open Go.ChangeShapes Go.WideShapes Go.ChangeAt Go.RowKit Go.Joins
open Go.ChangeMaps (open_string shut_string)
set_option linter.unusedVariables false

theorem own : ownKnob Try.prog.godebug = none := by kernel_rfl
theorem laidOut : laidOutB Try.prog = true := by kernel_rfl

set_option maxRecDepth 100000 in
set_option maxHeartbeats 400000 in
theorem walk (s : ByteArray) (w : World) (hs : s.size ≤ 1099511627776) :
    Calls Try.prog 4 #[.string s] w fun e w' => e = .returned (.bool true) ∧ w.grownBy w' none := by
  have Hs : Hid (s.size ≤ 1099511627776) := hs
  clear hs
  go_enter Try.func4, Try.ntmps4
  go_wp2_with (first
    | (go_at_call 9; refine (klives_any _).mono ?_; rintro e w1 ⟨rfl, hg1⟩)
    | (go_at_call 12; refine (read_any _ _ Hs.out).mono ?_; rintro e w2 ⟨v, er, rfl, hT2, hg2⟩; obtain ⟨hv2, rfl⟩ := told_tup hT2)
    | (go_at_call 13; refine (rread_any _ _ Hs.out).mono ?_; rintro e w3 ⟨v', er', rfl, hT3, hg3⟩; obtain ⟨hv3, rfl⟩ := told_tup hT3; have hv2' := hv2.keptN hg3)
    | (go_at_call 14; refine (same_any _ _ _ _ _ hv2' hv3).mono ?_; rintro e w4 ⟨⟨b, rfl, hb⟩, hg4⟩; obtain rfl : b = true := hb.2 rfl))
  go_ret
  exact ⟨rfl, grown_up (grown_up (grown_up hg1 hg2) hg3) hg4⟩

theorem bound {H : Type} {l : List (DataW H)} (hk : Rows.uptoSmall H l = true) : Rows.uptoBulkAll l ≤ 1048576 := of_decide_eq_true hk

theorem contract (H : Type) (enc : TypeId × Value → H) (W : World) (base : Nat) (args : Array Value) (ds gs : List (DataW H)) (before : List MemPlace)
    (hval : ∀ (j : Nat) t v, Try.f4.params[j]? = some t → args[j]? = some v → Value.okWide Try.prog W .any base t v)
    (hW : DataW.Whole enc Try.prog Try.f4.params.toList Rows.keysReadSpec.vars false W args.toList ds gs before) (hk : Rows.uptoSmall H (ds ++ gs) = true) :
    Calls Try.prog 4 args W fun e W' => ∃ v, e = .returned v ∧ Rows.keysReadSpec.post enc Try.prog Try.f4 false true false false W args v W' := by
  have hW' := hW
  obtain ⟨p, q, hA0, hV, rfl, hfz, hnd⟩ := hW
  have hA : DataW.TrodAll enc Try.prog W 0 (fun _ => true) true Try.f4.params.toList args.toList ds p := hA0
  rw [Try.params4] at hA hval
  obtain ⟨v0, vs0, d0, ds0, p0, q0, hargs, rfl, rfl, h0, r0⟩ := trodAll_cons hA
  obtain ⟨rfl, rfl, rfl⟩ := trodAll_nil r0
  obtain rfl : args = #[v0] := by cases args; simp_all
  obtain ⟨rfl, rfl⟩ := trodVars_none hV
  have k0 := h0
  have lt0 : ∀ x ∈ p0, x.block < W.heap.size := by obtain ⟨m, hm⟩ := k0; exact DataW.trod_lt m _ _ _ hm
  obtain ⟨s0, rfl, rfl, rfl, hs⟩ := open_string Try.underlying9 (hval 0 9 v0 rfl rfl) h0
  clear hA0
  have h1 := bound hk
  have e : s0.data.toList.length = s0.size := by rw [Array.length_toList]; rfl
  simp only [List.append_nil, Rows.uptoBulkAll, Rows.uptoBulk, e] at h1
  refine (walk s0 W (by omega)).mono fun e W' ⟨he, hg⟩ => ?_
  subst he
  have bel : Below W.heap.size W W' := (Below.refl _ W).grown hg (Nat.le_refl _) (by simp)
  exact ⟨_, rfl, _, _, _, [], _, [], hW', trodAll_mk1 (shut_bool Try.underlying4 _), (trodAll_cons_mk (shut_string Try.underlying9 hs) trodAll_mk0), rfl, bel.frame _, fun h => by cases h⟩

set_option maxRecDepth 100000 in
theorem lifted (os : Os) (started : os.Started) (H : Type) (enc : TypeId × Value → H) (F : Stop.Interp) :
    ReturnsInHanded {} Try.checked os 4 .any ((Rows.OpenSpec.upto Rows.keysReadSpec).pre6 enc Try.prog Try.f4 Rows.keysReadUptoRow.domain false) (((Rows.OpenSpec.upto Rows.keysReadSpec).at F).post enc Try.prog Try.f4 false true false false) := by
  refine returnsInHanded_of_cond (C := Try.checked) (s := Rows.OpenSpec.upto Rows.keysReadSpec) (k := Rows.uptoSmall) rfl own started (by kernel_rfl) Try.func4
    (OpenSpec.witness (enc := enc) (C := Try.checked) (s := Rows.OpenSpec.upto Rows.keysReadSpec) (k := Rows.uptoSmall) rfl false ⟨#[], #[.string ByteArray.empty], []⟩ 8 (by kernel_rfl) (by kernel_rfl) (by kernel_rfl)
      (x := ([.lit (.string [])], [], [])) (by kernel_rfl) rfl (by kernel_rfl)) ?_
  intro W base args ds gs before hval hW _ hk _
  exact contract H enc W base args ds gs before hval hW hk

theorem over : Rows.keysReadUptoRow.holds Try.pinned (Rows.OpenSpec.upto Rows.keysReadSpec) :=
  OpenClaim.holds_of_cond 4 Try.f4 rfl rfl rfl rfl rfl rfl rfl ⟨rfl, rfl, rfl, rfl, rfl⟩ rfl rfl rfl rfl rfl (by kernel_rfl) Try.func4 (by kernel_rfl)
    (of_decide_eq_true (by kernel_rfl)) (by unfold Func.isWrapper; first | (rw [if_pos (by decide +kernel)]; kernel_rfl) | (rw [if_neg (by decide +kernel)]; exact ⟨rfl, rfl⟩))
    (fun os started H enc _ F => lifted os started H enc F)
end Go.Proofs.Ytahpfedcaicohaa.keysRead
namespace Go.Proofs.Ytahpfedcaicohaa
theorem keysReadUpto_holds : Rows.KeysReadUptoSaid := keysRead.over
#print axioms keysReadUpto_holds
end Go.Proofs.Ytahpfedcaicohaa
