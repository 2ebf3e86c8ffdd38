/- RowsBack: whatever the schema and the row are, the law RowsBack returns true and leaves its arguments as they were: what is written is read again, and neither key nor rest is too long. No conditions. -/
import Derived.Test.YtiledkdoabdnnaaRows
import Derived.Test.YtiledkdoabdnnaaROpen
import Derived.Test.YtiledkdoabdnnaaKRefRead
import Derived.Test.YtiledkdoabdnnaaRLives
import Derived.OpenShut
import Derived.ShutString
import Derived.ChangeOld
import Derived.Below
namespace Go.Proofs.Ytiledkdoabdnnaa.rowsBack
open Go.ChangeShapes Go.WideShapes Go.ChangeAt Go.RowKit Go.Joins
open Go.ChangeMaps (open_string shut_string)
set_option linter.unusedVariables false

theorem own : ownKnob Try.prog.godebug = none := by kernel_rfl
theorem laidOut : laidOutB Try.prog = true := by kernel_rfl

set_option maxRecDepth 100000 in
set_option maxHeartbeats 400000 in
theorem walk (kv : Value) (ks : List Int) (u x : Int) (v : Value) (l : List V) (w : World) (hK : Kd w kv ks) (hT : Tup w v l) (hwf : ∀ y ∈ l, y.wf) :
    Calls Try.prog 6 #[sval kv u x, v] w fun e w' => e = .returned (.bool true) ∧ w.grownBy w' none := by
  have hga := World.grownBy_alloc w (.cells #[kv, .int .i64 u, .int .i64 x] 24) none
  have hS := Sb.new w kv u x
  obtain ⟨wa, Ha⟩ : ∃ wa, Hid (wa = w.alloc (.cells #[kv, .int .i64 u, .int .i64 x] 24)) := ⟨_, rfl⟩
  have hKa := hK.keptN hga
  have hTa := hT.keptN hga
  rw [← Ha.out] at hga hS hKa hTa
  have hA1 : (mkB (rowK ks u x l)).size ≤ 23 := by rw [mkB_size]; exact rowK_len ks u x l
  have hB1 : (mkB (rowR ks u x l)).size ≤ 33 := by rw [mkB_size]; exact rowR_len ks u x l
  obtain ⟨A, HA⟩ : ∃ A : ByteArray, Hid (mkB (rowK ks u x l) = A) := ⟨_, rfl⟩
  obtain ⟨B, HB⟩ : ∃ B : ByteArray, Hid (mkB (rowR ks u x l) = B) := ⟨_, rfl⟩
  have HA' : Hid ((⟨(rowK ks u x l).toArray⟩ : ByteArray) = A) := HA.out
  have HB' : Hid ((⟨(rowR ks u x l).toArray⟩ : ByteArray) = B) := HB.out
  rw [HA.out] at hA1
  rw [HB.out] at hB1
  have hA2 : (A.size : Int) ≤ 32 := by omega
  have hB2 : (B.size : Int) ≤ 40 := by omega
  have Hwf : Hid (∀ y ∈ l, y.wf) := hwf
  have HAs : Hid (A.size ≤ 1099511627776) := by show _ ≤ _; omega
  have HBs : Hid (B.size ≤ maxLen) := by show _ ≤ _; unfold maxLen; omega
  unfold sval
  clear hK hT hwf hA1 hB1
  rcases fitE_cases ks u x l with hE | hE
  · have HR : Hid (rdRow ks u x A.data.toList B = .ok l) := by
      show _ = _
      rw [← HA.out, ← HB.out, mkB_list]
      exact rdRow_back ks u x l Hwf.out hE
    go_enter Try.func6, Try.ntmps6
    go_wp2_with fail
    rw [← Ha.out]
    refine (rlives_any _).mono ?_
    rintro e w1 ⟨rfl, hg1⟩
    have c0 := (hS.keptN hg1).c0
    have c1 := (hS.keptN hg1).c1
    have c2 := (hS.keptN hg1).c2
    go_wp2_with fail
    refine (rowsWrite_any _ ks u x _ l _ (hKa.keptN hg1) (hTa.keptN hg1) Hwf.out).mono ?_
    rintro e w2 ⟨rfl, hg2⟩
    rw [HA'.out, HB'.out, hE]
    have hG2 := grown_up hg1 hg2
    have d0 := (hS.keptN hG2).c0
    have d1 := (hS.keptN hG2).c1
    have d2 := (hS.keptN hG2).c2
    clear c0 c1 c2 hg1 hg2
    go_wp2_with fail
    refine (rowsRead_any _ ks u x A B _ (hKa.keptN hG2) HAs.out HBs.out).mono ?_
    rintro e w3 ⟨v3, er3, rfl, hT3, hg3⟩
    rw [HR.out] at hT3
    obtain ⟨rfl, ho3⟩ := hT3
    have hv3 := ho3.tup
    have hG3 := grown_up hG2 hg3
    have hvl := hTa.keptN hG3
    clear d0 d1 d2 ho3
    go_wp2_with (go_at_call 20; refine (same_any _ _ _ _ _ hv3 hvl).mono ?_; rintro e w4 ⟨⟨b, rfl, hb⟩, hg4⟩; obtain rfl : b = true := hb.2 rfl)
    go_ret
    exact ⟨rfl, grown_up (grown_up hga hG3) hg4⟩
  · obtain ⟨E, HE⟩ : ∃ E : Int, Hid (fitE ks u x l = E) := ⟨_, rfl⟩
    rw [HE.out] at hE
    have hE0 : E ≠ 0 := by simpa using hE
    have H1 : Hid (A = ⟨#[]⟩ ∧ B = ⟨#[]⟩) := by
      show _ ∧ _
      rw [← HA.out, ← HB.out]
      unfold rowK rowR
      rw [if_neg (by rw [HE.out]; exact hE0), if_neg (by rw [HE.out]; exact hE0)]
      exact ⟨rfl, rfl⟩
    go_enter Try.func6, Try.ntmps6
    go_wp2_with fail
    rw [← Ha.out]
    refine (rlives_any _).mono ?_
    rintro e w1 ⟨rfl, hg1⟩
    have c0 := (hS.keptN hg1).c0
    have c1 := (hS.keptN hg1).c1
    have c2 := (hS.keptN hg1).c2
    go_wp2_with fail
    refine (rowsWrite_any _ ks u x _ l _ (hKa.keptN hg1) (hTa.keptN hg1) Hwf.out).mono ?_
    rintro e w2 ⟨rfl, hg2⟩
    rw [HA'.out, HB'.out, HE.out, H1.out.1, H1.out.2]
    go_wp2
    go_ret
    exact ⟨rfl, grown_up (grown_up hga hg1) hg2⟩

set_option maxRecDepth 100000 in
theorem lifted (os : Os) (started : os.Started) (H : Type) (enc : TypeId × Value → H) :
    ReturnsInHanded {} Try.checked os 6 .any (Rows.rowsBackSpec.pre6 enc Try.prog Try.f6 Rows.rowsBackRow.domain false) (Rows.rowsBackSpec.post enc Try.prog Try.f6 false true false false) := by
  refine returnsInHanded_of_change (C := Try.checked) own started (by kernel_rfl) Try.func6
    (ChangeSpec.witness6 (enc := enc) (C := Try.checked) false ⟨#[], #[.agg #[.slice none 0 0, .int .i64 0, .int .i64 0], .slice none 0 0], []⟩ 8 (by kernel_rfl) (by kernel_rfl) (by kernel_rfl) (by kernel_rfl)) ?_
  intro W base args ds gs before hval0 hW hcnd _
  have hval : ∀ (j : Nat) t v, Try.f6.params[j]? = some t → args[j]? = some v → Value.okWide Try.prog W .any base t v := hval0
  have hW' := hW
  obtain ⟨p, q, hA0, hV, rfl, hfz, hnd⟩ := hW
  have hA : DataW.TrodAll enc Try.prog W 0 (fun _ => true) true Try.f6.params.toList args.toList ds p := hA0
  rw [Try.params6] at hA hval
  obtain ⟨v0, vs0, d0, ds0, p0, q0, hargs, rfl, rfl, h0, r0⟩ := trodAll_cons hA
  obtain ⟨v1, vs1, d1, ds1, p1, q1, rfl, rfl, rfl, h1, r1⟩ := trodAll_cons r0
  obtain ⟨rfl, rfl, rfl⟩ := trodAll_nil r1
  obtain rfl : args = #[v0, v1] := by cases args; simp_all
  obtain ⟨rfl, rfl⟩ := trodVars_none hV
  have k0 := h0
  have lt0 : ∀ x ∈ p0, x.block < W.heap.size := by obtain ⟨m, hm⟩ := k0; exact DataW.trod_lt m _ _ _ hm
  have k1 := h1
  have lt1 : ∀ x ∈ p1, x.block < W.heap.size := by obtain ⟨m, hm⟩ := k1; exact DataW.trod_lt m _ _ _ hm
  obtain ⟨kv0, ks0, un0, ix0, rfl, hK0⟩ := open_schema (hval 0 24 v0 rfl rfl) h0
  obtain ⟨a1, len1, cap1, rfl⟩ := okWide_slice Try.underlying26 (hval 1 26 v1 rfl rfl)
  clear hA0
  obtain ⟨l1, hT1, hwf1⟩ := open_row h1
  refine (walk kv0 ks0 un0 ix0 _ l1 W hK0 hT1 hwf1).mono fun e W' ⟨he, hg⟩ => ?_
  subst he
  have bel : Below W.heap.size W W' := (Below.refl _ W).grown hg (Nat.le_refl _) (by simp)
  exact ⟨_, rfl, _, _, _, [], _, [], hW', trodAll_mk1 (shut_bool Try.underlying4 _), (trodAll_cons_mk (Below.trod laidOut (by kernel_rfl) (of_decide_eq_true (by kernel_rfl)) k0 bel lt0) (trodAll_cons_mk (Below.trod laidOut (by kernel_rfl) (of_decide_eq_true (by kernel_rfl)) k1 bel lt1) trodAll_mk0)), rfl, bel.frame _, fun h => by cases h⟩

theorem over : Rows.rowsBackRow.holds Try.pinned (OpenSpec.ofChange Rows.rowsBackSpec) :=
  OpenClaim.holds_of_wide 6 Try.f6 rfl rfl rfl rfl rfl rfl rfl ⟨rfl, rfl, rfl, rfl, rfl⟩ rfl rfl rfl rfl rfl (by kernel_rfl) Try.func6 (by kernel_rfl)
    (of_decide_eq_true (by kernel_rfl)) (by unfold Func.isWrapper; first | (rw [if_pos (by decide +kernel)]; kernel_rfl) | (rw [if_neg (by decide +kernel)]; exact ⟨rfl, rfl⟩))
    (fun os started H enc _ => lifted os started H enc)
end Go.Proofs.Ytiledkdoabdnnaa.rowsBack
namespace Go.Proofs.Ytiledkdoabdnnaa
theorem rowsBack_holds : Rows.RowsBackSaid := rowsBack.over
#print axioms rowsBack_holds
end Go.Proofs.Ytiledkdoabdnnaa
