/- RowsWrite: whatever the schema and the row are, the law RowsWrite returns true and leaves its arguments as they were: what a row is as a key and a rest, or why not, is what the document says. No conditions. -/
import Derived.Test.YtiledkdoabdnnaaRows
import Derived.Test.YtiledkdoabdnnaaROpen
import Derived.Test.YtiledkdoabdnnaaRRefRow
import Derived.Test.YtiledkdoabdnnaaRLives
import Derived.OpenShut
import Derived.ShutString
import Derived.ChangeOld
import Derived.Below
namespace Go.Proofs.Ytiledkdoabdnnaa.rowsWrite
open Go.ChangeShapes Go.WideShapes Go.ChangeAt Go.RowKit Go.Joins
open Go.ChangeMaps (open_string shut_string)
set_option linter.unusedVariables false

theorem own : ownKnob Try.prog.godebug = none := by kernel_rfl
theorem laidOut : laidOutB Try.prog = true := by kernel_rfl

set_option maxRecDepth 100000 in
set_option maxHeartbeats 400000 in
theorem walk (kv : Value) (ks : List Int) (u x : Int) (v : Value) (l : List V) (w : World) (hK : Kd w kv ks) (hT : Tup w v l) (hwf : ∀ y ∈ l, y.wf) :
    Calls Try.prog 4 #[sval kv u x, v] w fun e w' => e = .returned (.bool true) ∧ w.grownBy w' none := by
  have hga := World.grownBy_alloc w (.cells #[kv, .int .i64 u, .int .i64 x] 24) none
  have hS := Sb.new w kv u x
  obtain ⟨wa, Ha⟩ : ∃ wa, Hid (wa = w.alloc (.cells #[kv, .int .i64 u, .int .i64 x] 24)) := ⟨_, rfl⟩
  have hKa := hK.keptN hga
  have hTa := hT.keptN hga
  rw [← Ha.out] at hga hS hKa hTa
  obtain ⟨A, HA⟩ : ∃ A : ByteArray, Hid ((⟨(rowK ks u x l).toArray⟩ : ByteArray) = A) := ⟨_, rfl⟩
  obtain ⟨B, HB⟩ : ∃ B : ByteArray, Hid ((⟨(rowR ks u x l).toArray⟩ : ByteArray) = B) := ⟨_, rfl⟩
  obtain ⟨E, HE⟩ : ∃ E : Int, Hid (fitE ks u x l = E) := ⟨_, rfl⟩
  have Hwf : Hid (∀ y ∈ l, y.wf) := hwf
  unfold sval
  clear hK hT hwf
  go_enter Try.func4, Try.ntmps4
  go_wp2_with fail
  rw [← Ha.out]
  refine (rlives_any _).mono ?_
  rintro e w1 ⟨rfl, hg1⟩
  have c0 := (hS.keptN hg1).c0
  have c1 := (hS.keptN hg1).c1
  have c2 := (hS.keptN hg1).c2
  go_wp2_with fail
  refine (rowsWrite_any _ ks u x _ l _ (hKa.keptN hg1) (hTa.keptN hg1) Hwf.out).mono ?_
  rintro e w2 ⟨rfl, hg2⟩
  rw [HA.out, HB.out, HE.out]
  have hG2 := grown_up hg1 hg2
  have d0 := (hS.keptN hG2).c0
  have d1 := (hS.keptN hG2).c1
  have d2 := (hS.keptN hG2).c2
  clear c0 c1 c2 hg1 hg2
  go_wp2_with fail
  refine (rrowsWrite_any _ ks u x _ l _ (hKa.keptN hG2) (hTa.keptN hG2) Hwf.out).mono ?_
  rintro e w3 ⟨rfl, hg3⟩
  rw [HA.out, HB.out, HE.out]
  go_wp2
  go_ret
  exact ⟨rfl, grown_up (grown_up hga hG2) hg3⟩

set_option maxRecDepth 100000 in
theorem lifted (os : Os) (started : os.Started) (H : Type) (enc : TypeId × Value → H) :
    ReturnsInHanded {} Try.checked os 4 .any (Rows.rowsWriteSpec.pre6 enc Try.prog Try.f4 Rows.rowsWriteRow.domain false) (Rows.rowsWriteSpec.post enc Try.prog Try.f4 false true false false) := by
  refine returnsInHanded_of_change (C := Try.checked) own started (by kernel_rfl) Try.func4
    (ChangeSpec.witness6 (enc := enc) (C := Try.checked) false ⟨#[], #[.agg #[.slice none 0 0, .int .i64 0, .int .i64 0], .slice none 0 0], []⟩ 8 (by kernel_rfl) (by kernel_rfl) (by kernel_rfl) (by kernel_rfl)) ?_
  intro W base args ds gs before hval0 hW hcnd _
  have hval : ∀ (j : Nat) t v, Try.f4.params[j]? = some t → args[j]? = some v → Value.okWide Try.prog W .any base t v := hval0
  have hW' := hW
  obtain ⟨p, q, hA0, hV, rfl, hfz, hnd⟩ := hW
  have hA : DataW.TrodAll enc Try.prog W 0 (fun _ => true) true Try.f4.params.toList args.toList ds p := hA0
  rw [Try.params4] at hA hval
  obtain ⟨v0, vs0, d0, ds0, p0, q0, hargs, rfl, rfl, h0, r0⟩ := trodAll_cons hA
  obtain ⟨v1, vs1, d1, ds1, p1, q1, rfl, rfl, rfl, h1, r1⟩ := trodAll_cons r0
  obtain ⟨rfl, rfl, rfl⟩ := trodAll_nil r1
  obtain rfl : args = #[v0, v1] := by cases args; simp_all
  obtain ⟨rfl, rfl⟩ := trodVars_none hV
  have k0 := h0
  have lt0 : ∀ x ∈ p0, x.block < W.heap.size := by obtain ⟨m, hm⟩ := k0; exact DataW.trod_lt m _ _ _ hm
  have k1 := h1
  have lt1 : ∀ x ∈ p1, x.block < W.heap.size := by obtain ⟨m, hm⟩ := k1; exact DataW.trod_lt m _ _ _ hm
  obtain ⟨kv0, ks0, un0, ix0, rfl, hK0⟩ := open_schema (hval 0 24 v0 rfl rfl) h0
  obtain ⟨a1, len1, cap1, rfl⟩ := okWide_slice Try.underlying26 (hval 1 26 v1 rfl rfl)
  clear hA0
  obtain ⟨l1, hT1, hwf1⟩ := open_row h1
  refine (walk kv0 ks0 un0 ix0 _ l1 W hK0 hT1 hwf1).mono fun e W' ⟨he, hg⟩ => ?_
  subst he
  have bel : Below W.heap.size W W' := (Below.refl _ W).grown hg (Nat.le_refl _) (by simp)
  exact ⟨_, rfl, _, _, _, [], _, [], hW', trodAll_mk1 (shut_bool Try.underlying4 _), (trodAll_cons_mk (Below.trod laidOut (by kernel_rfl) (of_decide_eq_true (by kernel_rfl)) k0 bel lt0) (trodAll_cons_mk (Below.trod laidOut (by kernel_rfl) (of_decide_eq_true (by kernel_rfl)) k1 bel lt1) trodAll_mk0)), rfl, bel.frame _, fun h => by cases h⟩

theorem over : Rows.rowsWriteRow.holds Try.pinned (OpenSpec.ofChange Rows.rowsWriteSpec) :=
  OpenClaim.holds_of_wide 4 Try.f4 rfl rfl rfl rfl rfl rfl rfl ⟨rfl, rfl, rfl, rfl, rfl⟩ rfl rfl rfl rfl rfl (by kernel_rfl) Try.func4 (by kernel_rfl)
    (of_decide_eq_true (by kernel_rfl)) (by unfold Func.isWrapper; first | (rw [if_pos (by decide +kernel)]; kernel_rfl) | (rw [if_neg (by decide +kernel)]; exact ⟨rfl, rfl⟩))
    (fun os started H enc _ => lifted os started H enc)
end Go.Proofs.Ytiledkdoabdnnaa.rowsWrite
namespace Go.Proofs.Ytiledkdoabdnnaa
theorem rowsWrite_holds : Rows.RowsWriteSaid := rowsWrite.over
#print axioms rowsWrite_holds
end Go.Proofs.Ytiledkdoabdnnaa
