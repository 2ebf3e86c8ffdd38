/- KeysCompare: whatever the tuples are, the law KeysCompare returns true and leaves its arguments as they were: which tuple is ahead is what the document says, of any values. No conditions. -/
import Derived.Test.YtahpfedcaicohaaRows
import Derived.Test.YtahpfedcaicohaaKOpen
import Derived.Test.YtahpfedcaicohaaKCmpRef
import Derived.Test.YtahpfedcaicohaaKLives
import Derived.OpenShut
import Derived.ChangeOld
import Derived.Below
namespace Go.Proofs.Ytahpfedcaicohaa.keysCompare
open Go.ChangeShapes Go.WideShapes Go.ChangeAt Go.RowKit Go.Joins
set_option linter.unusedVariables false

theorem own : ownKnob Try.prog.godebug = none := by kernel_rfl
theorem laidOut : laidOutB Try.prog = true := by kernel_rfl

set_option maxRecDepth 100000 in
set_option maxHeartbeats 400000 in
theorem walk (v v' : Value) (a b : List V) (w : World) (hT : Tup w v a) (hT' : Tup w v' b) (ha : ∀ x ∈ a, x.wf) (hb : ∀ x ∈ b, x.wf) :
    Calls Try.prog 7 #[v, v'] w fun e w' => e = .returned (.bool true) ∧ w.grownBy w' none := by
  have Ha : Hid (∀ x ∈ a, x.wf) := ha
  have Hb : Hid (∀ x ∈ b, x.wf) := hb
  clear ha hb
  obtain ⟨C, HC⟩ : ∃ C : Int, Hid (cmpL a b = C) := ⟨_, rfl⟩
  go_enter Try.func7, Try.ntmps7
  go_wp2_with (first
    | (go_at_call 9; refine (klives_any _).mono ?_; rintro e w1 ⟨rfl, hg1⟩; have hT1 := hT.keptN hg1; have hT1' := hT'.keptN hg1)
    | (go_at_call 15; refine (compare_any _ _ _ _ _ hT1 hT1').mono ?_; rintro e w2 ⟨rfl, hg2⟩; rw [HC.out]; have hT2 := hT1.keptN hg2; have hT2' := hT1'.keptN hg2)
    | (go_at_call 16; refine (rcompare_any _ _ _ _ _ hT2 hT2' Ha.out Hb.out).mono ?_; rintro e w3 ⟨rfl, hg3⟩; rw [HC.out]))
  go_ret
  exact ⟨rfl, grown_up (grown_up hg1 hg2) hg3⟩

set_option maxRecDepth 100000 in
theorem lifted (os : Os) (started : os.Started) (H : Type) (enc : TypeId × Value → H) :
    ReturnsInHanded {} Try.checked os 7 .any (Rows.keysCompareSpec.pre6 enc Try.prog Try.f7 Rows.keysCompareRow.domain false) (Rows.keysCompareSpec.post enc Try.prog Try.f7 false true false false) := by
  refine returnsInHanded_of_change (C := Try.checked) own started (by kernel_rfl) Try.func7
    (ChangeSpec.witness6 (enc := enc) (C := Try.checked) false ⟨#[], #[.slice none 0 0, .slice none 0 0], []⟩ 8 (by kernel_rfl) (by kernel_rfl) (by kernel_rfl) (by kernel_rfl)) ?_
  intro W base args ds gs before hval0 hW hcnd _
  have hval : ∀ (j : Nat) t v, Try.f7.params[j]? = some t → args[j]? = some v → Value.okWide Try.prog W .any base t v := hval0
  have hW' := hW
  obtain ⟨p, q, hA0, hV, rfl, hfz, hnd⟩ := hW
  have hA : DataW.TrodAll enc Try.prog W 0 (fun _ => true) true Try.f7.params.toList args.toList ds p := hA0
  rw [Try.params7] at hA hval
  obtain ⟨v0, vs0, d0, ds0, p0, q0, hargs, rfl, rfl, h0, r0⟩ := trodAll_cons hA
  obtain ⟨v1, vs1, d1, ds1, p1, q1, rfl, rfl, rfl, h1, r1⟩ := trodAll_cons r0
  obtain ⟨rfl, rfl, rfl⟩ := trodAll_nil r1
  obtain rfl : args = #[v0, v1] := by cases args; simp_all
  obtain ⟨rfl, rfl⟩ := trodVars_none hV
  have k0 := h0
  have lt0 : ∀ x ∈ p0, x.block < W.heap.size := by obtain ⟨m, hm⟩ := k0; exact DataW.trod_lt m _ _ _ hm
  have k1 := h1
  have lt1 : ∀ x ∈ p1, x.block < W.heap.size := by obtain ⟨m, hm⟩ := k1; exact DataW.trod_lt m _ _ _ hm
  obtain ⟨a0, len0, cap0, rfl⟩ := okWide_slice Try.underlying22 (hval 0 22 v0 rfl rfl)
  obtain ⟨a1, len1, cap1, rfl⟩ := okWide_slice Try.underlying22 (hval 1 22 v1 rfl rfl)
  clear hA0 hval0
  obtain ⟨l, hT, hwf, _⟩ := open_vals h0
  obtain ⟨m, hT', hwf', _⟩ := open_vals h1
  refine (walk _ _ l m W hT hT' hwf hwf').mono fun e W' ⟨he, hg⟩ => ?_
  subst he
  have bel : Below W.heap.size W W' := (Below.refl _ W).grown hg (Nat.le_refl _) (by simp)
  exact ⟨_, rfl, _, _, _, [], _, [], hW', trodAll_mk1 (shut_bool Try.underlying4 _), (trodAll_cons_mk (Below.trod laidOut (by kernel_rfl) (of_decide_eq_true (by kernel_rfl)) k0 bel lt0) (trodAll_cons_mk (Below.trod laidOut (by kernel_rfl) (of_decide_eq_true (by kernel_rfl)) k1 bel lt1) trodAll_mk0)), rfl, bel.frame _, fun h => by cases h⟩

theorem over : Rows.keysCompareRow.holds Try.pinned (OpenSpec.ofChange Rows.keysCompareSpec) :=
  OpenClaim.holds_of_wide 7 Try.f7 rfl rfl rfl rfl rfl rfl rfl ⟨rfl, rfl, rfl, rfl, rfl⟩ rfl rfl rfl rfl rfl (by kernel_rfl) Try.func7 (by kernel_rfl)
    (of_decide_eq_true (by kernel_rfl)) (by unfold Func.isWrapper; first | (rw [if_pos (by decide +kernel)]; kernel_rfl) | (rw [if_neg (by decide +kernel)]; exact ⟨rfl, rfl⟩))
    (fun os started H enc _ => lifted os started H enc)
end Go.Proofs.Ytahpfedcaicohaa.keysCompare
namespace Go.Proofs.Ytahpfedcaicohaa
theorem keysCompare_holds : Rows.KeysCompareSaid := keysCompare.over
#print axioms keysCompare_holds
end Go.Proofs.Ytahpfedcaicohaa
