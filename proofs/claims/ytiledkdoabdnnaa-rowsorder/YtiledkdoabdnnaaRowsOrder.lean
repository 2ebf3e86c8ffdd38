/- RowsOrder: whatever the schema and the two values are, the law RowsOrder returns true and leaves its arguments as they were: rows' keys are ordered as their first values are. No conditions. -/
import Derived.Test.YtiledkdoabdnnaaRows
import Derived.Test.YtiledkdoabdnnaaROpen
import Derived.Test.YtiledkdoabdnnaaKOrd
import Derived.Test.YtiledkdoabdnnaaRLives
import Derived.OpenShut
import Derived.ShutString
import Derived.ChangeOld
import Derived.Below
namespace Go.Proofs.Ytiledkdoabdnnaa.rowsOrder
open Go.ChangeShapes Go.WideShapes Go.ChangeAt Go.RowKit Go.Joins
open Go.ChangeMaps (open_string shut_string)
set_option linter.unusedVariables false

theorem own : ownKnob Try.prog.godebug = none := by kernel_rfl
theorem laidOut : laidOutB Try.prog = true := by kernel_rfl

theorem keyE_cases (ks : List Int) (u x : Int) (y : V) : (keyE ks u x y = 0 ∧ okV y = true ∧ keyB ks u x y = encL [y]) ∨ (keyE ks u x y != 0) = true := by
  by_cases h : keyE ks u x y = 0
  · left
    have h2 := h
    unfold keyE at h2
    split at h2
    · split at h2
      · next hf =>
        refine ⟨h, (fitV_parts hf).2.2, ?_⟩
        unfold keyB
        rw [if_pos h]
        simp [encL]
      · omega
    · omega
  · right
    simpa using h

set_option maxRecDepth 100000 in
set_option maxHeartbeats 800000 in
theorem walk (kv : Value) (ks : List Int) (u x : Int) (y z : V) (w : World) (hK : Kd w kv ks) (hy : y.wf) (hz : z.wf) :
    Calls Try.prog 8 #[sval kv u x, y.val, z.val] w fun e w' => e = .returned (.bool true) ∧ w.grownBy w' none := by
  have hga := World.grownBy_alloc w (.cells #[kv, .int .i64 u, .int .i64 x] 24) none
  have hgb := World.grownBy_alloc (w.alloc (.cells #[kv, .int .i64 u, .int .i64 x] 24)) (.cells #[.int .i64 y.k, .int .i64 y.n, .string y.s] 29) none
  have hgc := World.grownBy_alloc ((w.alloc (.cells #[kv, .int .i64 u, .int .i64 x] 24)).alloc (.cells #[.int .i64 y.k, .int .i64 y.n, .string y.s] 29)) (.cells #[.int .i64 z.k, .int .i64 z.n, .string z.s] 29) none
  have hS := ((Sb.new w kv u x).keptN hgb).keptN hgc
  have hY := (Vb.new (w.alloc (.cells #[kv, .int .i64 u, .int .i64 x] 24)) y).kept hgc (by simp)
  have hZ := Vb.new ((w.alloc (.cells #[kv, .int .i64 u, .int .i64 x] 24)).alloc (.cells #[.int .i64 y.k, .int .i64 y.n, .string y.s] 29)) z
  have hgab := grown_up (grown_up hga hgb) hgc
  have hKa := hK.keptN hgab
  have eg : (w.alloc (.cells #[kv, .int .i64 u, .int .i64 x] 24)).heap.size = w.heap.size + 1 := by simp
  have eg2 : ((w.alloc (.cells #[kv, .int .i64 u, .int .i64 x] 24)).alloc (.cells #[.int .i64 y.k, .int .i64 y.n, .string y.s] 29)).heap.size = w.heap.size + 1 + 1 := by simp
  rw [eg] at hY
  rw [eg2] at hZ
  clear hga hgb hgc eg eg2
  obtain ⟨wa, Ha⟩ : ∃ wa, Hid (wa = ((w.alloc (.cells #[kv, .int .i64 u, .int .i64 x] 24)).alloc (.cells #[.int .i64 y.k, .int .i64 y.n, .string y.s] 29)).alloc (.cells #[.int .i64 z.k, .int .i64 z.n, .string z.s] 29)) := ⟨_, rfl⟩
  rw [← Ha.out] at hS hY hZ hKa hgab
  obtain ⟨A, HA⟩ : ∃ A : ByteArray, Hid ((⟨(keyB ks u x y).toArray⟩ : ByteArray) = A) := ⟨_, rfl⟩
  obtain ⟨C, HC⟩ : ∃ C : ByteArray, Hid ((⟨(keyB ks u x z).toArray⟩ : ByteArray) = C) := ⟨_, rfl⟩
  obtain ⟨E, HE⟩ : ∃ E : Int, Hid (keyE ks u x y = E) := ⟨_, rfl⟩
  obtain ⟨F, HF⟩ : ∃ F : Int, Hid (keyE ks u x z = F) := ⟨_, rfl⟩
  have Hy : Hid (y.wf) := hy
  have Hz : Hid (z.wf) := hz
  unfold sval V.val
  clear hK hy hz
  go_enter Try.func8, Try.ntmps8
  go_wp2_with fail
  rw [← Ha.out]
  refine (rlives_any _).mono ?_
  rintro e w1 ⟨rfl, hg1⟩
  have c0 := (hS.keptN hg1).c0
  have c1 := (hS.keptN hg1).c1
  have c2 := (hS.keptN hg1).c2
  have v0 := (hY.kept hg1 (by simp)).c0
  have v1 := (hY.kept hg1 (by simp)).c1
  have v2 := (hY.kept hg1 (by simp)).c2
  go_wp2_with fail
  refine (key_any _ ks u x y _ (hKa.keptN hg1) Hy.out).mono ?_
  rintro e w2 ⟨rfl, hg2⟩
  rw [HA.out, HE.out]
  have hG2 := grown_up hg1 hg2
  clear c0 c1 c2 v0 v1 v2 hg1 hg2
  have c0 := (hS.keptN hG2).c0
  have c1 := (hS.keptN hG2).c1
  have c2 := (hS.keptN hG2).c2
  have v0 := (hZ.kept hG2 (by simp)).c0
  have v1 := (hZ.kept hG2 (by simp)).c1
  have v2 := (hZ.kept hG2 (by simp)).c2
  go_wp2_with fail
  refine (key_any _ ks u x z _ (hKa.keptN hG2) Hz.out).mono ?_
  rintro e w3 ⟨rfl, hg3⟩
  rw [HC.out, HF.out]
  have hG3 := grown_up hG2 hg3
  clear c0 c1 c2 v0 v1 v2
  have HG : Hid (w.grownBy w3 none) := grown_up hgab hG3
  rcases keyE_cases ks u x y with ⟨e0, oy, by_⟩ | e0
  · rcases keyE_cases ks u x z with ⟨f0, oz, bz⟩ | f0
    · have E0 : E = 0 := by rw [← HE.out]; exact e0
      have F0 : F = 0 := by rw [← HF.out]; exact f0
      subst E0 F0
      have As : A.toList = encL [y] := by rw [ByteArray.toList_eq, ← HA.out]; exact by_
      have Cs : C.toList = encL [z] := by rw [ByteArray.toList_eq, ← HC.out]; exact bz
      have hc := cmpB_encL [y] [z] (by intro q hq; simp at hq; subst hq; exact Hy.out) (by intro q hq; simp at hq; subst hq; exact Hz.out) (by simp [oy]) (by simp [oz])
      have hl : Op.bytesLess A.toList C.toList = decide (cmpL [y] [z] < 0) := by rw [As, Cs, less_cmpB, hc]
      have hq : (A.toList == C.toList) = decide (cmpL [y] [z] = 0) := by
        rw [As, Cs, ← hc, Bool.eq_iff_iff, beq_iff_eq, decide_eq_true_iff, cmpB_zero]
      have hcc := cmpL_cases [y] [z]
      obtain ⟨c, Hc⟩ : ∃ c : Int, Hid (cmpL [y] [z] = c) := ⟨_, rfl⟩
      rw [Hc.out] at hl hq hcc
      have hY3 := hY.kept hG3 (by simp)
      have hZ3 := hZ.kept hG3 (by simp)
      have y0 := hY3.c0
      have y1 := hY3.c1
      have y2 := hY3.c2
      have z0 : ∀ o, (w3.alloc o).cell? ⟨w.heap.size + 1 + 1, 0, none⟩ = some (.int .i64 z.k) := fun o => (hZ3.kept (World.grownBy_alloc w3 o none) (by simp)).c0
      have z1 : ∀ o, (w3.alloc o).cell? ⟨w.heap.size + 1 + 1, 1, none⟩ = some (.int .i64 z.n) := fun o => (hZ3.kept (World.grownBy_alloc w3 o none) (by simp)).c1
      have z2 : ∀ o, (w3.alloc o).cell? ⟨w.heap.size + 1 + 1, 2, none⟩ = some (.string z.s) := fun o => (hZ3.kept (World.grownBy_alloc w3 o none) (by simp)).c2
      clear hG2 hG3 hg3 hgab hY hZ hS hKa As Cs hc oy oz by_ bz e0 f0 HA HC HE HF hY3 hZ3
      generalize w.heap.size + 1 = gy at *
      rcases hcc with rfl | rfl | rfl
      all_goals
        simp only [Int.reduceNeg, Int.reduceLT, Int.reduceEq, decide_true, decide_false] at hl hq
        go_wp2_with fail
        refine (compare_any _ _ [y] [z] _ (Tup.one y (by simp) (by simp) (by simp) (by simp; omega)) (Tup.one z (by simp) (by simp) (by simp) (by simp))).mono ?_
        rintro e w4 ⟨rfl, hg4⟩
        rw [Hc.out]
        go_wp2
        go_ret
        exact ⟨rfl, grown_up (grown_up (grown_up HG.out (World.grownBy_alloc _ _ _)) (World.grownBy_alloc _ _ _)) hg4⟩
    · rw [HF.out] at f0
      have E0 : E = 0 := by rw [← HE.out]; exact e0
      subst E0
      go_wp2
      go_ret
      exact ⟨rfl, HG.out⟩
  · rw [HE.out] at e0
    go_wp2
    go_ret
    exact ⟨rfl, HG.out⟩

set_option maxRecDepth 100000 in
theorem lifted (os : Os) (started : os.Started) (H : Type) (enc : TypeId × Value → H) :
    ReturnsInHanded {} Try.checked os 8 .any (Rows.rowsOrderSpec.pre6 enc Try.prog Try.f8 Rows.rowsOrderRow.domain false) (Rows.rowsOrderSpec.post enc Try.prog Try.f8 false true false false) := by
  refine returnsInHanded_of_change (C := Try.checked) own started (by kernel_rfl) Try.func8
    (ChangeSpec.witness6 (enc := enc) (C := Try.checked) false ⟨#[], #[.agg #[.slice none 0 0, .int .i64 0, .int .i64 0], .agg #[.int .i64 0, .int .i64 0, .string ByteArray.empty], .agg #[.int .i64 0, .int .i64 0, .string ByteArray.empty]], []⟩ 8 (by kernel_rfl) (by kernel_rfl) (by kernel_rfl) (by kernel_rfl)) ?_
  intro W base args ds gs before hval0 hW hcnd _
  have hval : ∀ (j : Nat) t v, Try.f8.params[j]? = some t → args[j]? = some v → Value.okWide Try.prog W .any base t v := hval0
  have hW' := hW
  obtain ⟨p, q, hA0, hV, rfl, hfz, hnd⟩ := hW
  have hA : DataW.TrodAll enc Try.prog W 0 (fun _ => true) true Try.f8.params.toList args.toList ds p := hA0
  rw [Try.params8] at hA hval
  obtain ⟨v0, vs0, d0, ds0, p0, q0, hargs, rfl, rfl, h0, r0⟩ := trodAll_cons hA
  obtain ⟨v1, vs1, d1, ds1, p1, q1, rfl, rfl, rfl, h1, r1⟩ := trodAll_cons r0
  obtain ⟨v2, vs2, d2, ds2, p2, q2, rfl, rfl, rfl, h2, r2⟩ := trodAll_cons r1
  obtain ⟨rfl, rfl, rfl⟩ := trodAll_nil r2
  obtain rfl : args = #[v0, v1, v2] := by cases args; simp_all
  obtain ⟨rfl, rfl⟩ := trodVars_none hV
  have k0 := h0
  have lt0 : ∀ x ∈ p0, x.block < W.heap.size := by obtain ⟨m, hm⟩ := k0; exact DataW.trod_lt m _ _ _ hm
  have k1 := h1
  have lt1 : ∀ x ∈ p1, x.block < W.heap.size := by obtain ⟨m, hm⟩ := k1; exact DataW.trod_lt m _ _ _ hm
  have k2 := h2
  have lt2 : ∀ x ∈ p2, x.block < W.heap.size := by obtain ⟨m, hm⟩ := k2; exact DataW.trod_lt m _ _ _ hm
  obtain ⟨kv0, ks0, un0, ix0, rfl, hK0⟩ := open_schema (hval 0 24 v0 rfl rfl) h0
  obtain ⟨y1, rfl, hy1⟩ := open_value (hval 1 29 v1 rfl rfl) h1
  obtain ⟨y2, rfl, hy2⟩ := open_value (hval 2 29 v2 rfl rfl) h2
  clear hA0
  refine (walk kv0 ks0 un0 ix0 y1 y2 W hK0 hy1 hy2).mono fun e W' ⟨he, hg⟩ => ?_
  subst he
  have bel : Below W.heap.size W W' := (Below.refl _ W).grown hg (Nat.le_refl _) (by simp)
  exact ⟨_, rfl, _, _, _, [], _, [], hW', trodAll_mk1 (shut_bool Try.underlying4 _), (trodAll_cons_mk (Below.trod laidOut (by kernel_rfl) (of_decide_eq_true (by kernel_rfl)) k0 bel lt0) (trodAll_cons_mk (Below.trod laidOut (by kernel_rfl) (of_decide_eq_true (by kernel_rfl)) k1 bel lt1) (trodAll_cons_mk (Below.trod laidOut (by kernel_rfl) (of_decide_eq_true (by kernel_rfl)) k2 bel lt2) trodAll_mk0))), rfl, bel.frame _, fun h => by cases h⟩

theorem over : Rows.rowsOrderRow.holds Try.pinned (OpenSpec.ofChange Rows.rowsOrderSpec) :=
  OpenClaim.holds_of_wide 8 Try.f8 rfl rfl rfl rfl rfl rfl rfl ⟨rfl, rfl, rfl, rfl, rfl⟩ rfl rfl rfl rfl rfl (by kernel_rfl) Try.func8 (by kernel_rfl)
    (of_decide_eq_true (by kernel_rfl)) (by unfold Func.isWrapper; first | (rw [if_pos (by decide +kernel)]; kernel_rfl) | (rw [if_neg (by decide +kernel)]; exact ⟨rfl, rfl⟩))
    (fun os started H enc _ => lifted os started H enc)
end Go.Proofs.Ytiledkdoabdnnaa.rowsOrder
namespace Go.Proofs.Ytiledkdoabdnnaa
theorem rowsOrder_holds : Rows.RowsOrderSaid := rowsOrder.over
#print axioms rowsOrder_holds
end Go.Proofs.Ytiledkdoabdnnaa
