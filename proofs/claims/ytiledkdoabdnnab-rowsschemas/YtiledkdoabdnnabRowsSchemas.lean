/- RowsSchemas: whatever the schema and the bytes are, the law RowsSchemas returns true and leaves its arguments as they were: what a schema is as bytes, and which schema bytes are, is what the document says; there and back. No conditions. -/
import Derived.Test.YtiledkdoabdnnabRows
import Derived.Test.YtiledkdoabdnnabROpen
import Derived.Test.YtiledkdoabdnnabRUnBack
import Derived.Test.YtiledkdoabdnnabRSame
import Derived.Test.YtiledkdoabdnnabRLives
import Derived.OpenShut
import Derived.ShutString
import Derived.ChangeOld
import Derived.Below
namespace Go.Proofs.Ytiledkdoabdnnab.rowsSchemas
open Go.ChangeShapes Go.WideShapes Go.ChangeAt Go.RowKit Go.Joins
open Go.ChangeMaps (open_string shut_string)
set_option linter.unusedVariables false

theorem own : ownKnob Try.prog.godebug = none := by kernel_rfl
theorem laidOut : laidOutB Try.prog = true := by kernel_rfl

set_option maxRecDepth 100000 in
set_option maxHeartbeats 1600000 in
theorem walk (kv : Value) (ks : List Int) (u x : Int) (t : ByteArray) (w : World) (hK : Kd w kv ks) (ht : t.size ≤ maxLen) :
    Calls Try.prog 3 #[sval kv u x, .string t] w fun e w' => e = .returned (.bool true) ∧ w.grownBy w' none := by
  have hga := World.grownBy_alloc w (.cells #[kv, .int .i64 u, .int .i64 x] 24) none
  have hS := Sb.new w kv u x
  obtain ⟨wa, Ha⟩ : ∃ wa, Hid (wa = w.alloc (.cells #[kv, .int .i64 u, .int .i64 x] 24)) := ⟨_, rfl⟩
  have hKa := hK.keptN hga
  rw [← Ha.out] at hga hS hKa
  have Ht : Hid (t.size ≤ maxLen) := ht
  have hAs : (mkB (scB ks u x)).size ≤ 7 := by
    rw [mkB_size]
    unfold scB
    split
    · next hr =>
      have := rightS_len ks u x hr
      simp [schB]
      omega
    · simp
  obtain ⟨A, HA⟩ : ∃ A : ByteArray, Hid (mkB (scB ks u x) = A) := ⟨_, rfl⟩
  have HA' : Hid ((⟨(scB ks u x).toArray⟩ : ByteArray) = A) := HA.out
  have HAs : Hid (A.size ≤ maxLen) := by show _ ≤ _; rw [← HA.out]; unfold maxLen; omega
  have Hback : Hid (rightS ks u x = true → mkB (schB ks u x) = A) := by
    intro hr
    rw [← HA.out]
    unfold scB
    rw [if_pos hr]
  obtain ⟨E, HE⟩ : ∃ E : Int, Hid (scE ks u x = E) := ⟨_, rfl⟩
  obtain ⟨K, HK⟩ : ∃ K, Hid ((if unOk t then (unRaw t).ks else []) = K) := ⟨_, rfl⟩
  obtain ⟨U, HU⟩ : ∃ U : Int, Hid ((if unOk t then ((unRaw t).u : Int) else 0) = U) := ⟨_, rfl⟩
  obtain ⟨X, HX⟩ : ∃ X : Int, Hid ((if unOk t then ((unRaw t).x : Int) else 0) = X) := ⟨_, rfl⟩
  obtain ⟨R, HR⟩ : ∃ R : Int, Hid ((if unOk t then (0 : Int) else 10) = R) := ⟨_, rfl⟩
  unfold sval
  clear hK ht hAs
  go_enter Try.func3, Try.ntmps3
  go_wp2_with fail
  rw [← Ha.out]
  refine (rlives_any _).mono ?_
  rintro e w1 ⟨rfl, hg1⟩
  have c0 := (hS.keptN hg1).c0
  have c1 := (hS.keptN hg1).c1
  have c2 := (hS.keptN hg1).c2
  go_wp2_with fail
  refine (rschema_any kv ks u x _ (hKa.keptN hg1)).mono ?_
  rintro e w2 ⟨rfl, hg2⟩
  rw [HA'.out, HE.out]
  have hG2 := grown_up hg1 hg2
  clear c0 c1 c2 hg1 hg2
  have c0 := (hS.keptN hG2).c0
  have c1 := (hS.keptN hG2).c1
  have c2 := (hS.keptN hG2).c2
  go_wp2_with fail
  refine (rrschema_any kv ks u x _ (hKa.keptN hG2)).mono ?_
  rintro e w3 ⟨rfl, hg3⟩
  rw [HA'.out, HE.out]
  have hG3 := grown_up hG2 hg3
  clear c0 c1 c2 hG2 hg3
  go_wp2_with fail
  refine (unschema_any t _ Ht.out).mono ?_
  rintro e w4 ⟨kv4, u4, x4, r4, rfl, hT4, hg4⟩
  obtain ⟨hK4, rfl, rfl, rfl⟩ := toldS_kd hT4
  rw [HK.out] at hK4
  rw [HU.out, HX.out, HR.out]
  have hG4 := grown_up hG3 hg4
  obtain ⟨a4, m4, e4, _⟩ := id hK4
  subst e4
  have al4 := World.grownBy_alloc w4 (.cells #[.slice a4 K.length m4, .int .i64 U, .int .i64 X] 24) none
  have hC4 := Sb.new w4 (.slice a4 K.length m4) U X
  have hKc := hK4.keptN al4
  have hG4' := grown_up hG4 al4
  clear hT4 hG3 hg4 hG4 al4 hK4
  unfold sval
  obtain ⟨w4', H4⟩ : ∃ w4', Hid (w4' = w4.alloc (.cells #[.slice a4 K.length m4, .int .i64 U, .int .i64 X] 24)) := ⟨_, rfl⟩
  rw [← H4.out] at hC4 hKc hG4'
  go_wp2_with fail
  rw [← H4.out]
  refine (runschema_any t _ Ht.out).mono ?_
  rintro e w5 ⟨kv5, u5, x5, r5, rfl, hT5, hg5⟩
  obtain ⟨hK5, rfl, rfl, rfl⟩ := toldS_kd hT5
  rw [HK.out] at hK5
  rw [HU.out, HX.out, HR.out]
  obtain ⟨a5, m5, e5, _⟩ := id hK5
  subst e5
  have al5 := World.grownBy_alloc w5 (.cells #[.slice a5 K.length m5, .int .i64 U, .int .i64 X] 24) none
  have hD5 := Sb.new w5 (.slice a5 K.length m5) U X
  have hKd := hK5.keptN al5
  have h5 := grown_up hg5 al5
  have hC5 := hC4.keptN h5
  have hKc5 := hKc.keptN h5
  have hG5 := grown_up hG4' h5
  clear hT5 hg5 al5 hK5 hC4 hKc hG4' h5 H4
  unfold sval
  obtain ⟨w5', H5⟩ : ∃ w5', Hid (w5' = w5.alloc (.cells #[.slice a5 K.length m5, .int .i64 U, .int .i64 X] 24)) := ⟨_, rfl⟩
  rw [← H5.out] at hD5 hKd hC5 hKc5 hG5
  go_wp2_with fail
  rw [← H5.out]
  refine (unschema_any A _ HAs.out).mono ?_
  rintro e w6 ⟨kv6, u6, x6, r6, rfl, hT6, hg6⟩
  have hK6 := (toldS_kd hT6).1
  obtain ⟨a6, m6, e6, _, _, _⟩ := id hK6
  obtain ⟨L6, HL6⟩ : ∃ L6, Hid ((if unOk A then (unRaw A).ks else []).length = L6) := ⟨_, rfl⟩
  rw [HL6.out] at e6
  subst e6
  have al6 := World.grownBy_alloc w6 (.cells #[.slice a6 L6 m6, .int .i64 u6, .int .i64 x6] 24) none
  have hX6 := Sb.new w6 (.slice a6 L6 m6) u6 x6
  have h6 := grown_up hg6 al6
  have hC6 := hC5.keptN h6
  have hKc6 := hKc5.keptN h6
  have hD6 := hD5.keptN h6
  have hKd6 := hKd.keptN h6
  have hG6 := grown_up hG5 h6
  have hS6 := hS.keptN hG6
  have hKs6 := hKa.keptN hG6
  have hT6' : rightS ks u x = true → Kd (w6.alloc (.cells #[.slice a6 L6 m6, .int .i64 u6, .int .i64 x6] 24)) (.slice a6 L6 m6) ks ∧ u6 = u ∧ x6 = x ∧ r6 = 0 := by
    intro hr
    have hh := hT6
    rw [← Hback.out hr] at hh
    obtain ⟨q1, q2, q3, q4⟩ := toldS_back hr hh
    exact ⟨q1.keptN al6, q2, q3, q4⟩
  clear hT6 hK6 hg6 al6 h6 hC5 hKc5 hD5 hKd hG5 H5 hS hKa HL6
  have p0 := hC6.c0
  have p1 := hC6.c1
  have p2 := hC6.c2
  have q0 := hD6.c0
  have q1 := hD6.c1
  have q2 := hD6.c2
  clear hC6 hD6
  unfold sval
  obtain ⟨w7, H7⟩ : ∃ w7, Hid (w7 = w6.alloc (.cells #[.slice a6 L6 m6, .int .i64 u6, .int .i64 x6] 24)) := ⟨_, rfl⟩
  rw [← H7.out] at hX6 hKc6 hKd6 hG6 hS6 hKs6 hT6'
  have HG : Hid (w.grownBy w7 none) := grown_up hga hG6
  by_cases hr : rightS ks u x = true
  · obtain ⟨hKx, rfl, rfl, rfl⟩ := hT6' hr
    have E0 : E = 0 := by rw [← HE.out]; unfold scE; rw [if_pos hr]
    subst E0
    go_wp2_with fail
    rw [← H7.out]
    refine (sameS_any _ _ K K U X U X _ hKc6 hKd6 ⟨rfl, rfl, rfl⟩).mono ?_
    rintro e w8 ⟨rfl, hg8⟩
    have s0 := (hS6.keptN hg8).c0
    have s1 := (hS6.keptN hg8).c1
    have s2 := (hS6.keptN hg8).c2
    have t0 := (hX6.keptN hg8).c0
    have t1 := (hX6.keptN hg8).c1
    have t2 := (hX6.keptN hg8).c2
    go_wp2_with fail
    refine (sameS_any _ _ ks ks _ _ _ _ _ (hKx.keptN hg8) (hKs6.keptN hg8) ⟨rfl, rfl, rfl⟩).mono ?_
    rintro e w9 ⟨rfl, hg9⟩
    go_wp2
    go_ret
    exact ⟨rfl, grown_up (grown_up HG.out hg8) hg9⟩
  · have E4 : E = 4 := by rw [← HE.out]; unfold scE; rw [if_neg hr]
    subst E4
    go_wp2_with fail
    rw [← H7.out]
    refine (sameS_any _ _ K K U X U X _ hKc6 hKd6 ⟨rfl, rfl, rfl⟩).mono ?_
    rintro e w8 ⟨rfl, hg8⟩
    go_wp2
    go_ret
    exact ⟨rfl, grown_up HG.out hg8⟩

set_option maxRecDepth 100000 in
theorem lifted (os : Os) (started : os.Started) (H : Type) (enc : TypeId × Value → H) :
    ReturnsInHanded {} Try.checked os 3 .any (Rows.rowsSchemasSpec.pre6 enc Try.prog Try.f3 Rows.rowsSchemasRow.domain false) (Rows.rowsSchemasSpec.post enc Try.prog Try.f3 false true false false) := by
  refine returnsInHanded_of_change (C := Try.checked) own started (by kernel_rfl) Try.func3
    (ChangeSpec.witness6 (enc := enc) (C := Try.checked) false ⟨#[], #[.agg #[.slice none 0 0, .int .i64 0, .int .i64 0], .string ByteArray.empty], []⟩ 8 (by kernel_rfl) (by kernel_rfl) (by kernel_rfl) (by kernel_rfl)) ?_
  intro W base args ds gs before hval0 hW hcnd _
  have hval : ∀ (j : Nat) t v, Try.f3.params[j]? = some t → args[j]? = some v → Value.okWide Try.prog W .any base t v := hval0
  have hW' := hW
  obtain ⟨p, q, hA0, hV, rfl, hfz, hnd⟩ := hW
  have hA : DataW.TrodAll enc Try.prog W 0 (fun _ => true) true Try.f3.params.toList args.toList ds p := hA0
  rw [Try.params3] at hA hval
  obtain ⟨v0, vs0, d0, ds0, p0, q0, hargs, rfl, rfl, h0, r0⟩ := trodAll_cons hA
  obtain ⟨v1, vs1, d1, ds1, p1, q1, rfl, rfl, rfl, h1, r1⟩ := trodAll_cons r0
  obtain ⟨rfl, rfl, rfl⟩ := trodAll_nil r1
  obtain rfl : args = #[v0, v1] := by cases args; simp_all
  obtain ⟨rfl, rfl⟩ := trodVars_none hV
  have k0 := h0
  have lt0 : ∀ x ∈ p0, x.block < W.heap.size := by obtain ⟨m, hm⟩ := k0; exact DataW.trod_lt m _ _ _ hm
  obtain ⟨kv0, ks0, un0, ix0, rfl, hK0⟩ := open_schema (hval 0 24 v0 rfl rfl) h0
  obtain ⟨s1, rfl, rfl, rfl, hs1⟩ := open_string Try.underlying9 (hval 1 9 v1 rfl rfl) h1
  clear hA0
  refine (walk kv0 ks0 un0 ix0 s1 W hK0 hs1).mono fun e W' ⟨he, hg⟩ => ?_
  subst he
  have bel : Below W.heap.size W W' := (Below.refl _ W).grown hg (Nat.le_refl _) (by simp)
  exact ⟨_, rfl, _, _, _, [], _, [], hW', trodAll_mk1 (shut_bool Try.underlying4 _), (trodAll_cons_mk (Below.trod laidOut (by kernel_rfl) (of_decide_eq_true (by kernel_rfl)) k0 bel lt0) (trodAll_cons_mk (shut_string Try.underlying9 hs1) trodAll_mk0)), rfl, bel.frame _, fun h => by cases h⟩

theorem over : Rows.rowsSchemasRow.holds Try.pinned (OpenSpec.ofChange Rows.rowsSchemasSpec) :=
  OpenClaim.holds_of_wide 3 Try.f3 rfl rfl rfl rfl rfl rfl rfl ⟨rfl, rfl, rfl, rfl, rfl⟩ rfl rfl rfl rfl rfl (by kernel_rfl) Try.func3 (by kernel_rfl)
    (of_decide_eq_true (by kernel_rfl)) (by unfold Func.isWrapper; first | (rw [if_pos (by decide +kernel)]; kernel_rfl) | (rw [if_neg (by decide +kernel)]; exact ⟨rfl, rfl⟩))
    (fun os started H enc _ => lifted os started H enc)
end Go.Proofs.Ytiledkdoabdnnab.rowsSchemas
namespace Go.Proofs.Ytiledkdoabdnnab
theorem rowsSchemas_holds : Rows.RowsSchemasSaid := rowsSchemas.over
#print axioms rowsSchemas_holds
end Go.Proofs.Ytiledkdoabdnnab
