/- RowsFit: whatever the schema, the row and the value are, the law RowsFit returns true and leaves its arguments as they were: which schemas may be, which rows and keys fit, is what the document says. No conditions. -/
import Derived.Test.YtiledkdoabdnnaaRows
import Derived.Test.YtiledkdoabdnnaaROpen
import Derived.Test.YtiledkdoabdnnaaRRef
import Derived.Test.YtiledkdoabdnnaaRLives
import Derived.OpenShut
import Derived.ShutString
import Derived.ChangeOld
import Derived.Below
namespace Go.Proofs.Ytiledkdoabdnnaa.rowsFit
open Go.ChangeShapes Go.WideShapes Go.ChangeAt Go.RowKit Go.Joins
open Go.ChangeMaps (open_string shut_string)
set_option linter.unusedVariables false

theorem own : ownKnob Try.prog.godebug = none := by kernel_rfl
theorem laidOut : laidOutB Try.prog = true := by kernel_rfl

set_option maxRecDepth 100000 in
set_option maxHeartbeats 800000 in
theorem walk (kv : Value) (ks : List Int) (u x : Int) (v : Value) (l : List V) (y : V) (w : World) (hK : Kd w kv ks) (hT : Tup w v l) (hwf : ∀ y ∈ l, y.wf) (hy : y.wf) :
    Calls Try.prog 3 #[sval kv u x, v, y.val] w fun e w' => e = .returned (.bool true) ∧ w.grownBy w' none := by
  have hga := World.grownBy_alloc w (.cells #[kv, .int .i64 u, .int .i64 x] 24) none
  have hgb := World.grownBy_alloc (w.alloc (.cells #[kv, .int .i64 u, .int .i64 x] 24)) (.cells #[.int .i64 y.k, .int .i64 y.n, .string y.s] 29) none
  have hS := (Sb.new w kv u x).keptN hgb
  have hV := Vb.new (w.alloc (.cells #[kv, .int .i64 u, .int .i64 x] 24)) y
  have hgab := grown_up hga hgb
  have hKa := hK.keptN hgab
  have hTa := hT.keptN hgab
  have eg : (w.alloc (.cells #[kv, .int .i64 u, .int .i64 x] 24)).heap.size = w.heap.size + 1 := by simp
  rw [eg] at hV
  clear hga hgb eg
  obtain ⟨wa, Ha⟩ : ∃ wa, Hid (wa = (w.alloc (.cells #[kv, .int .i64 u, .int .i64 x] 24)).alloc (.cells #[.int .i64 y.k, .int .i64 y.n, .string y.s] 29)) := ⟨_, rfl⟩
  rw [← Ha.out] at hS hV hKa hgab hTa
  obtain ⟨A, HA⟩ : ∃ A : ByteArray, Hid ((⟨(keyB ks u x y).toArray⟩ : ByteArray) = A) := ⟨_, rfl⟩
  obtain ⟨E, HE⟩ : ∃ E : Int, Hid (keyE ks u x y = E) := ⟨_, rfl⟩
  obtain ⟨F, HF⟩ : ∃ F : Int, Hid (fitE ks u x l = F) := ⟨_, rfl⟩
  obtain ⟨b, Hb⟩ : ∃ b : Bool, Hid (rightS ks u x = b) := ⟨_, rfl⟩
  have Hwf : Hid (∀ y ∈ l, y.wf) := hwf
  have Hy : Hid (y.wf) := hy
  unfold sval V.val
  clear hK hT hwf hy
  go_enter Try.func3, Try.ntmps3
  go_wp2_with fail
  rw [← Ha.out]
  refine (rlives_any _).mono ?_
  rintro e w1 ⟨rfl, hg1⟩
  have c0 := (hS.keptN hg1).c0
  have c1 := (hS.keptN hg1).c1
  have c2 := (hS.keptN hg1).c2
  have v0 := (hV.kept hg1 (by simp)).c0
  have v1 := (hV.kept hg1 (by simp)).c1
  have v2 := (hV.kept hg1 (by simp)).c2
  go_wp2_with fail
  refine (key_any _ ks u x y _ (hKa.keptN hg1) Hy.out).mono ?_
  rintro e w2 ⟨rfl, hg2⟩
  rw [HA.out, HE.out]
  have hG2 := grown_up hg1 hg2
  clear c0 c1 c2 v0 v1 v2
  have c0 := (hS.keptN hG2).c0
  have c1 := (hS.keptN hG2).c1
  have c2 := (hS.keptN hG2).c2
  have v0 := (hV.kept hG2 (by simp)).c0
  have v1 := (hV.kept hG2 (by simp)).c1
  have v2 := (hV.kept hG2 (by simp)).c2
  go_wp2_with fail
  refine (rkey_any _ ks u x y _ (hKa.keptN hG2) Hy.out).mono ?_
  rintro e w3 ⟨rfl, hg3⟩
  rw [HA.out, HE.out]
  have hG3 := grown_up hG2 hg3
  have s0 : ∀ W : World, w3.grownBy W none → W.cell? ⟨w.heap.size, 0, none⟩ = some kv := fun W h => (hS.keptN (grown_up hG3 h)).c0
  have s1 : ∀ W : World, w3.grownBy W none → W.cell? ⟨w.heap.size, 1, none⟩ = some (.int .i64 u) := fun W h => (hS.keptN (grown_up hG3 h)).c1
  have s2 : ∀ W : World, w3.grownBy W none → W.cell? ⟨w.heap.size, 2, none⟩ = some (.int .i64 x) := fun W h => (hS.keptN (grown_up hG3 h)).c2
  have hK3 := hKa.keptN hG3
  have hT3 := hTa.keptN hG3
  have HG : Hid (w.grownBy w3 none) := grown_up hgab hG3
  have dr : w3.grownBy w3.drew none := ⟨rfl, rfl, rfl, Nat.le_refl _, fun _ _ _ => rfl⟩
  clear c0 c1 c2 v0 v1 v2 hg1 hg2 hg3 hG2 hG3 hS hV hKa hTa hgab
  generalize w.heap.size = g at *
  go_upto_region 5 with fail
  go_region_held_law (fun w' => w3.grownBy w' none) (first | assumption | exact dr) (first
    | (go_at_call 12; refine (rightS_any kv ks u x _ (hK3.keptN (by assumption))).mono ?_; rintro e w4 ⟨rfl, hg4⟩; rw [Hb.out]; have S4 : w3.grownBy w4 none := grown_up (by assumption) hg4; clear hg4)
    | (go_at_call 13; refine (rright_any kv ks u x _ (hK3.keptN (by assumption))).mono ?_; rintro e w5 ⟨rfl, hg5⟩; rw [Hb.out]; have S5 : w3.grownBy w5 none := grown_up (by assumption) hg5; clear hg5)
    | (go_at_call 14; refine (fits_row kv ks u x v l _ (hK3.keptN (by assumption)) (hT3.keptN (by assumption)) Hwf.out).mono ?_; rintro e w6 ⟨rfl, hg6⟩; rw [HF.out]; have S6 : w3.grownBy w6 none := grown_up (by assumption) hg6; clear hg6)
    | (go_at_call 15; refine (rfits_row kv ks u x v l _ (hK3.keptN (by assumption)) (hT3.keptN (by assumption)) Hwf.out).mono ?_; rintro e w7 ⟨rfl, hg7⟩; rw [HF.out]; have S7 : w3.grownBy w7 none := grown_up (by assumption) hg7; clear hg7))
  all_goals go_wp2
  all_goals go_ret
  all_goals exact ⟨rfl, grown_up HG.out (by assumption)⟩

set_option maxRecDepth 100000 in
theorem lifted (os : Os) (started : os.Started) (H : Type) (enc : TypeId × Value → H) :
    ReturnsInHanded {} Try.checked os 3 .any (Rows.rowsFitSpec.pre6 enc Try.prog Try.f3 Rows.rowsFitRow.domain false) (Rows.rowsFitSpec.post enc Try.prog Try.f3 false true false false) := by
  refine returnsInHanded_of_change (C := Try.checked) own started (by kernel_rfl) Try.func3
    (ChangeSpec.witness6 (enc := enc) (C := Try.checked) false ⟨#[], #[.agg #[.slice none 0 0, .int .i64 0, .int .i64 0], .slice none 0 0, .agg #[.int .i64 0, .int .i64 0, .string ByteArray.empty]], []⟩ 8 (by kernel_rfl) (by kernel_rfl) (by kernel_rfl) (by kernel_rfl)) ?_
  intro W base args ds gs before hval0 hW hcnd _
  have hval : ∀ (j : Nat) t v, Try.f3.params[j]? = some t → args[j]? = some v → Value.okWide Try.prog W .any base t v := hval0
  have hW' := hW
  obtain ⟨p, q, hA0, hV, rfl, hfz, hnd⟩ := hW
  have hA : DataW.TrodAll enc Try.prog W 0 (fun _ => true) true Try.f3.params.toList args.toList ds p := hA0
  rw [Try.params3] at hA hval
  obtain ⟨v0, vs0, d0, ds0, p0, q0, hargs, rfl, rfl, h0, r0⟩ := trodAll_cons hA
  obtain ⟨v1, vs1, d1, ds1, p1, q1, rfl, rfl, rfl, h1, r1⟩ := trodAll_cons r0
  obtain ⟨v2, vs2, d2, ds2, p2, q2, rfl, rfl, rfl, h2, r2⟩ := trodAll_cons r1
  obtain ⟨rfl, rfl, rfl⟩ := trodAll_nil r2
  obtain rfl : args = #[v0, v1, v2] := by cases args; simp_all
  obtain ⟨rfl, rfl⟩ := trodVars_none hV
  have k0 := h0
  have lt0 : ∀ x ∈ p0, x.block < W.heap.size := by obtain ⟨m, hm⟩ := k0; exact DataW.trod_lt m _ _ _ hm
  have k1 := h1
  have lt1 : ∀ x ∈ p1, x.block < W.heap.size := by obtain ⟨m, hm⟩ := k1; exact DataW.trod_lt m _ _ _ hm
  have k2 := h2
  have lt2 : ∀ x ∈ p2, x.block < W.heap.size := by obtain ⟨m, hm⟩ := k2; exact DataW.trod_lt m _ _ _ hm
  obtain ⟨kv0, ks0, un0, ix0, rfl, hK0⟩ := open_schema (hval 0 24 v0 rfl rfl) h0
  obtain ⟨a1, len1, cap1, rfl⟩ := okWide_slice Try.underlying26 (hval 1 26 v1 rfl rfl)
  obtain ⟨y2, rfl, hy2⟩ := open_value (hval 2 29 v2 rfl rfl) h2
  clear hA0
  obtain ⟨l1, hT1, hwf1⟩ := open_row h1
  refine (walk kv0 ks0 un0 ix0 _ l1 y2 W hK0 hT1 hwf1 hy2).mono fun e W' ⟨he, hg⟩ => ?_
  subst he
  have bel : Below W.heap.size W W' := (Below.refl _ W).grown hg (Nat.le_refl _) (by simp)
  exact ⟨_, rfl, _, _, _, [], _, [], hW', trodAll_mk1 (shut_bool Try.underlying4 _), (trodAll_cons_mk (Below.trod laidOut (by kernel_rfl) (of_decide_eq_true (by kernel_rfl)) k0 bel lt0) (trodAll_cons_mk (Below.trod laidOut (by kernel_rfl) (of_decide_eq_true (by kernel_rfl)) k1 bel lt1) (trodAll_cons_mk (Below.trod laidOut (by kernel_rfl) (of_decide_eq_true (by kernel_rfl)) k2 bel lt2) trodAll_mk0))), rfl, bel.frame _, fun h => by cases h⟩

theorem over : Rows.rowsFitRow.holds Try.pinned (OpenSpec.ofChange Rows.rowsFitSpec) :=
  OpenClaim.holds_of_wide 3 Try.f3 rfl rfl rfl rfl rfl rfl rfl ⟨rfl, rfl, rfl, rfl, rfl⟩ rfl rfl rfl rfl rfl (by kernel_rfl) Try.func3 (by kernel_rfl)
    (of_decide_eq_true (by kernel_rfl)) (by unfold Func.isWrapper; first | (rw [if_pos (by decide +kernel)]; kernel_rfl) | (rw [if_neg (by decide +kernel)]; exact ⟨rfl, rfl⟩))
    (fun os started H enc _ => lifted os started H enc)
end Go.Proofs.Ytiledkdoabdnnaa.rowsFit
namespace Go.Proofs.Ytiledkdoabdnnaa
theorem rowsFit_holds : Rows.RowsFitSaid := rowsFit.over
#print axioms rowsFit_holds
end Go.Proofs.Ytiledkdoabdnnaa
