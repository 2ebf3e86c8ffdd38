/- RowsRead: for all schemas and bytes that together hold at most 1048576 values and letters, the law RowsRead returns true and leaves its arguments as they were: which row any key and rest are, or that they are none's, is what the document says. The condition is the second form's own bound. -/
import Derived.Test.YtiledkdoabdnnaaRows
import Derived.Test.YtiledkdoabdnnaaROpen
import Derived.Test.YtiledkdoabdnnaaRRefRd
import Derived.Test.YtiledkdoabdnnaaRLives
import Derived.OpenShut
import Derived.ShutString
import Derived.ChangeOld
import Derived.Below
import Derived.JoinedCond
namespace Go.Proofs.Ytiledkdoabdnnaa.rowsRead
open Go.ChangeShapes Go.WideShapes Go.ChangeAt Go.RowKit Go.Joins
open Go.ChangeMaps (open_string shut_string)
set_option linter.unusedVariables false

theorem own : ownKnob Try.prog.godebug = none := by kernel_rfl
theorem laidOut : laidOutB Try.prog = true := by kernel_rfl

set_option maxRecDepth 100000 in
set_option maxHeartbeats 400000 in
theorem walk (kv : Value) (ks : List Int) (u x : Int) (A B : ByteArray) (w : World) (hK : Kd w kv ks) (hA : A.size ≤ 1099511627776) (hB : B.size ≤ maxLen) :
    Calls Try.prog 5 #[sval kv u x, .string A, .string B] w fun e w' => e = .returned (.bool true) ∧ w.grownBy w' none := by
  have hga := World.grownBy_alloc w (.cells #[kv, .int .i64 u, .int .i64 x] 24) none
  have hS := Sb.new w kv u x
  obtain ⟨wa, Ha⟩ : ∃ wa, Hid (wa = w.alloc (.cells #[kv, .int .i64 u, .int .i64 x] 24)) := ⟨_, rfl⟩
  have hKa := hK.keptN hga
  rw [← Ha.out] at hga hS hKa
  have HAs : Hid (A.size ≤ 1099511627776) := hA
  have HBs : Hid (B.size ≤ maxLen) := hB
  obtain ⟨R, HR⟩ : ∃ R, Hid (rdRow ks u x A.data.toList B = R) := ⟨_, rfl⟩
  unfold sval
  clear hK hA hB
  go_enter Try.func5, Try.ntmps5
  go_wp2_with fail
  rw [← Ha.out]
  refine (rlives_any _).mono ?_
  rintro e w1 ⟨rfl, hg1⟩
  have c0 := (hS.keptN hg1).c0
  have c1 := (hS.keptN hg1).c1
  have c2 := (hS.keptN hg1).c2
  go_wp2_with fail
  refine (rowsRead_any _ ks u x A B _ (hKa.keptN hg1) HAs.out HBs.out).mono ?_
  rintro e w2 ⟨v2, er2, rfl, hT2, hg2⟩
  rw [HR.out] at hT2
  obtain ⟨hv2, rfl⟩ := told_tup hT2
  have hG2 := grown_up hg1 hg2
  have d0 := (hS.keptN hG2).c0
  have d1 := (hS.keptN hG2).c1
  have d2 := (hS.keptN hG2).c2
  clear c0 c1 c2 hg1 hg2 hT2
  go_wp2_with fail
  refine (rrowsRead_any _ ks u x A B _ (hKa.keptN hG2) HAs.out HBs.out).mono ?_
  rintro e w3 ⟨v3, er3, rfl, hT3, hg3⟩
  rw [HR.out] at hT3
  obtain ⟨hv3, rfl⟩ := told_tup hT3
  have hv2' := hv2.keptN hg3
  have HG : Hid (w.grownBy w3 none) := grown_up (grown_up hga hG2) hg3
  clear d0 d1 d2 hT3 hv2
  go_wp2_with (go_at_call 20; refine (same_any _ _ _ _ _ hv2' hv3).mono ?_; rintro e w4 ⟨⟨b, rfl, hb⟩, hg4⟩; obtain rfl : b = true := hb.2 rfl)
  go_ret
  exact ⟨rfl, grown_up HG.out hg4⟩

theorem bound {H : Type} {l : List (DataW H)} (hk : Rows.uptoSmall H l = true) : Rows.uptoBulkAll l ≤ 1048576 := of_decide_eq_true hk

theorem contract (H : Type) (enc : TypeId × Value → H) (W : World) (base : Nat) (args : Array Value) (ds gs : List (DataW H)) (before : List MemPlace)
    (hval : ∀ (j : Nat) t v, Try.f5.params[j]? = some t → args[j]? = some v → Value.okWide Try.prog W .any base t v)
    (hW : DataW.Whole enc Try.prog Try.f5.params.toList Rows.rowsReadSpec.vars false W args.toList ds gs before) (hk : Rows.uptoSmall H (ds ++ gs) = true) :
    Calls Try.prog 5 args W fun e W' => ∃ v, e = .returned v ∧ Rows.rowsReadSpec.post enc Try.prog Try.f5 false true false false W args v W' := by
  have hW' := hW
  obtain ⟨p, q, hA0, hV, rfl, hfz, hnd⟩ := hW
  have hA : DataW.TrodAll enc Try.prog W 0 (fun _ => true) true Try.f5.params.toList args.toList ds p := hA0
  rw [Try.params5] at hA hval
  obtain ⟨v0, vs0, d0, ds0, p0, q0, hargs, rfl, rfl, h0, r0⟩ := trodAll_cons hA
  obtain ⟨v1, vs1, d1, ds1, p1, q1, rfl, rfl, rfl, h1, r1⟩ := trodAll_cons r0
  obtain ⟨v2, vs2, d2, ds2, p2, q2, rfl, rfl, rfl, h2, r2⟩ := trodAll_cons r1
  obtain ⟨rfl, rfl, rfl⟩ := trodAll_nil r2
  obtain rfl : args = #[v0, v1, v2] := by cases args; simp_all
  obtain ⟨rfl, rfl⟩ := trodVars_none hV
  have k0 := h0
  have lt0 : ∀ x ∈ p0, x.block < W.heap.size := by obtain ⟨m, hm⟩ := k0; exact DataW.trod_lt m _ _ _ hm
  obtain ⟨kv0, ks0, un0, ix0, rfl, hK0⟩ := open_schema (hval 0 24 v0 rfl rfl) h0
  obtain ⟨s1, rfl, rfl, rfl, hs1⟩ := open_string Try.underlying9 (hval 1 9 v1 rfl rfl) h1
  obtain ⟨s2, rfl, rfl, rfl, hs2⟩ := open_string Try.underlying9 (hval 2 9 v2 rfl rfl) h2
  clear hA0
  have hbd := bound hk
  have es1 : s1.data.toList.length = s1.size := by rw [Array.length_toList]; rfl
  have es2 : s2.data.toList.length = s2.size := by rw [Array.length_toList]; rfl
  simp only [List.append_nil, Rows.uptoBulkAll, Rows.uptoBulk, es1, es2] at hbd
  refine (walk kv0 ks0 un0 ix0 s1 s2 W hK0 (by omega) (by unfold maxLen; omega)).mono fun e W' ⟨he, hg⟩ => ?_
  subst he
  have bel : Below W.heap.size W W' := (Below.refl _ W).grown hg (Nat.le_refl _) (by simp)
  exact ⟨_, rfl, _, _, _, [], _, [], hW', trodAll_mk1 (shut_bool Try.underlying4 _), (trodAll_cons_mk (Below.trod laidOut (by kernel_rfl) (of_decide_eq_true (by kernel_rfl)) k0 bel lt0) (trodAll_cons_mk (shut_string Try.underlying9 hs1) (trodAll_cons_mk (shut_string Try.underlying9 hs2) trodAll_mk0))), rfl, bel.frame _, fun h => by cases h⟩

set_option maxRecDepth 100000 in
theorem lifted (os : Os) (started : os.Started) (H : Type) (enc : TypeId × Value → H) (F : Stop.Interp) :
    ReturnsInHanded {} Try.checked os 5 .any ((Rows.OpenSpec.upto Rows.rowsReadSpec).pre6 enc Try.prog Try.f5 Rows.rowsReadUptoRow.domain false) (((Rows.OpenSpec.upto Rows.rowsReadSpec).at F).post enc Try.prog Try.f5 false true false false) := by
  refine returnsInHanded_of_cond (C := Try.checked) (s := Rows.OpenSpec.upto Rows.rowsReadSpec) (k := Rows.uptoSmall) rfl own started (by kernel_rfl) Try.func5
    (OpenSpec.witness (enc := enc) (C := Try.checked) (s := Rows.OpenSpec.upto Rows.rowsReadSpec) (k := Rows.uptoSmall) rfl false ⟨#[], #[.agg #[.slice none 0 0, .int .i64 0, .int .i64 0], .string ByteArray.empty, .string ByteArray.empty], []⟩ 8 (by kernel_rfl) (by kernel_rfl) (by kernel_rfl)
      (x := ([.agg [.nil, .lit (.int .i64 0), .lit (.int .i64 0)], .lit (.string []), .lit (.string [])], [], [])) (by kernel_rfl) rfl (by kernel_rfl)) ?_
  intro W base args ds gs before hval hW _ hk _
  exact contract H enc W base args ds gs before hval hW hk

theorem over : Rows.rowsReadUptoRow.holds Try.pinned (Rows.OpenSpec.upto Rows.rowsReadSpec) :=
  OpenClaim.holds_of_cond 5 Try.f5 rfl rfl rfl rfl rfl rfl rfl ⟨rfl, rfl, rfl, rfl, rfl⟩ rfl rfl rfl rfl rfl (by kernel_rfl) Try.func5 (by kernel_rfl)
    (of_decide_eq_true (by kernel_rfl)) (by unfold Func.isWrapper; first | (rw [if_pos (by decide +kernel)]; kernel_rfl) | (rw [if_neg (by decide +kernel)]; exact ⟨rfl, rfl⟩))
    (fun os started H enc _ F => lifted os started H enc F)
end Go.Proofs.Ytiledkdoabdnnaa.rowsRead
namespace Go.Proofs.Ytiledkdoabdnnaa
theorem rowsReadUpto_holds : Rows.RowsReadUptoSaid := rowsRead.over
#print axioms rowsReadUpto_holds
end Go.Proofs.Ytiledkdoabdnnaa
