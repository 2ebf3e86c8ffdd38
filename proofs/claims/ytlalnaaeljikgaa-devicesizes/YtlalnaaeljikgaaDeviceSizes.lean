/- DeviceSizes: whatever the two numbers are, the law DeviceSizes returns true and leaves its arguments as they were: how many sectors a device has is what the document says, and all are noughts at first. No conditions. -/
import Derived.Test.YtlalnaaeljikgaaRows
import Derived.Test.YtlalnaaeljikgaaDOpen
import Derived.OpenShut
import Derived.ShutString
import Derived.ChangeOld
import Derived.Below
namespace Go.Proofs.Ytlalnaaeljikgaa.deviceSizes
open Go.ChangeShapes Go.WideShapes Go.ChangeAt Go.RowKit Go.Joins
open Go.ChangeMaps (open_string shut_string)
set_option linter.unusedVariables false

theorem own : ownKnob Try.prog.godebug = none := by kernel_rfl
theorem laidOut : laidOutB Try.prog = true := by kernel_rfl

theorem uns_fresh (N : Nat) : unsI (fresh N) = [] := by
  have : unsL (fresh N) = [] := by
    unfold unsL
    exact List.filter_eq_nil_iff.2 (fun k _ => by simp [fresh])
  simp [unsI, this]
set_option maxRecDepth 100000 in
set_option maxHeartbeats 800000 in
theorem walk (n at_ : Int) (w : World) : Calls Try.prog 4 #[.int .i64 n, .int .i64 at_] w fun e w' => e = .returned (.bool true) ∧ w.grownBy w' none := by
  have hcl : (newN n : Int) = min (max n 0) 4096 := by unfold newN; omega
  have hN4 : newN n ≤ 4096 := by unfold newN; omega
  obtain ⟨k, hk⟩ : ∃ k : Nat, wrap64 ((IntKind.u64.wrap at_).tmod 4097) = (k : Int) := by
    have e : IntKind.u64.wrap at_ = at_ % 18446744073709551616 := by rfl
    refine ⟨((at_ % 18446744073709551616) % 4097).toNat, ?_⟩
    rw [e, Int.tmod_eq_emod_of_nonneg (by omega)]
    unfold wrap64
    omega
  obtain ⟨N, HN⟩ : ∃ N, Hid (newN n = N) := ⟨_, rfl⟩
  rw [HN.out] at hcl hN4
  obtain ⟨X, HX⟩ : ∃ X : ByteArray, Hid (⟨(whole []).toArray⟩ = X) := ⟨_, rfl⟩
  have HF : Hid (unsI (fresh N) = []) := uns_fresh N
  have HC : Hid (((N : Int) == min (max n 0) 4096) = true) := by show _ = _; simp [hcl]
  clear hcl
  go_enter Try.func4, Try.ntmps4
  go_upto_region 4 with (first
    | (go_at_call 9; refine (dlives_any _).mono ?_; rintro e w1 ⟨rfl, hk1⟩)
    | (go_at_call 11; refine (new_any _ _).mono ?_; rintro e w2 ⟨p, rfl, hD2, hk2, hp2⟩)
    | fail)
  rw [HN.out] at hD2
  go_upto_region 5 with fail
  rw [hk]
  clear hk
  by_cases hlt : k < N
  · have hli : (k : Int) < (N : Int) := by omega
    have HR : Hid (rdL (fresh N) k = whole []) := by
      show _ = _
      simp [rdL, hasB, fresh, Dv.at, hlt]
      rfl
    go_upto_region 8 with (first
      | (go_at_call 21; refine (size_any p (fresh N) _ hD2).mono ?_; rintro e wx ⟨rfl, rfl⟩; rw [show (fresh N).n = N from rfl])
      | (go_at_call 22; refine (whole_any ⟨#[]⟩ _ (by show 0 ≤ maxLen; omega)).mono ?_; rintro e w3 ⟨rfl, hk3⟩; rw [show (whole (⟨#[]⟩ : ByteArray).data.toList) = whole [] from rfl, HX.out]; have hD3 := hD2.keptN hk3)
      | fail)
    have HK : Hid (w.grownBy w3 none) := ((hk1.then hk2).then hk3).grown
    clear hk1 hk2 hk3 hp2
    have hC := HC.out
    all_goals
      go_wp2_with (first
        | (go_at_call 21; refine (size_any p (fresh N) _ hD3).mono ?_; rintro e wx ⟨rfl, rfl⟩; rw [show (fresh N).n = N from rfl])
        | (go_at_call 19; refine (read_any p (fresh N) _ _ hD3).mono ?_; rintro e w4 ⟨rfl, hk4⟩; rw [HR.out, HX.out]; have hD4 := hD3.keptN hk4)
        | (go_at_call 17; refine (unsure_any p (fresh N) _ hD4).mono ?_; rintro e w5 ⟨v, rfl, hO5, hk5⟩; have hD5 := hD4.keptN hk5; obtain ⟨va, vc, rfl, _⟩ := hO5.open; rw [HF.out]; rw [List.length_nil])
        | (go_at_call 15; refine (calls_any p (fresh N) _ hD5).mono ?_; rintro e wx ⟨rfl, rfl⟩; rw [show (fresh N).c = 0 from rfl])
        | fail)
      go_ret
      exact ⟨rfl, grown_trans HK.out (hk4.then hk5).grown (.inl rfl)⟩
  · have hli : ¬ (k : Int) < (N : Int) := by omega
    have HR : Hid (rdL (fresh N) k = []) := by
      show _ = _
      simp [rdL, hasB, fresh]
      omega
    go_upto_region 8 with (first
      | (go_at_call 21; refine (size_any p (fresh N) _ hD2).mono ?_; rintro e wx ⟨rfl, rfl⟩; rw [show (fresh N).n = N from rfl])
      | fail)
    have HK : Hid (w.grownBy wx none) := (hk1.then hk2).grown
    clear hk1 hk2 hp2
    have hC := HC.out
    all_goals
      go_wp2_with (first
        | (go_at_call 21; refine (size_any p (fresh N) _ hD2).mono ?_; rintro e wy ⟨rfl, rfl⟩; rw [show (fresh N).n = N from rfl])
        | (go_at_call 19; refine (read_any p (fresh N) _ _ hD2).mono ?_; rintro e w4 ⟨rfl, hk4⟩; rw [HR.out]; have hD4 := hD2.keptN hk4)
        | (go_at_call 17; refine (unsure_any p (fresh N) _ hD4).mono ?_; rintro e w5 ⟨v, rfl, hO5, hk5⟩; have hD5 := hD4.keptN hk5; obtain ⟨va, vc, rfl, _⟩ := hO5.open; rw [HF.out]; rw [List.length_nil])
        | (go_at_call 15; refine (calls_any p (fresh N) _ hD5).mono ?_; rintro e wx ⟨rfl, rfl⟩; rw [show (fresh N).c = 0 from rfl])
        | fail)
      go_ret
      exact ⟨rfl, grown_trans HK.out (hk4.then hk5).grown (.inl rfl)⟩

set_option maxRecDepth 100000 in
theorem lifted (os : Os) (started : os.Started) (H : Type) (enc : TypeId × Value → H) :
    ReturnsInHanded {} Try.checked os 4 .any (Rows.deviceSizesSpec.pre6 enc Try.prog Try.f4 Rows.deviceSizesRow.domain false) (Rows.deviceSizesSpec.post enc Try.prog Try.f4 false true false false) := by
  refine returnsInHanded_of_change (C := Try.checked) own started (by kernel_rfl) Try.func4
    (ChangeSpec.witness6 (enc := enc) (C := Try.checked) false ⟨#[], #[.int .i64 0, .int .i64 0], []⟩ 8 (by kernel_rfl) (by kernel_rfl) (by kernel_rfl) (by kernel_rfl)) ?_
  intro W base args ds gs before hval0 hW hcnd _
  have hval : ∀ (j : Nat) t v, Try.f4.params[j]? = some t → args[j]? = some v → Value.okWide Try.prog W .any base t v := hval0
  have hW' := hW
  obtain ⟨p, q, hA0, hV, rfl, hfz, hnd⟩ := hW
  have hA : DataW.TrodAll enc Try.prog W 0 (fun _ => true) true Try.f4.params.toList args.toList ds p := hA0
  rw [Try.params4] at hA hval
  obtain ⟨v0, vs0, d0, ds0, p0, q0, hargs, rfl, rfl, h0, r0⟩ := trodAll_cons hA
  obtain ⟨v1, vs1, d1, ds1, p1, q1, rfl, rfl, rfl, h1, r1⟩ := trodAll_cons r0
  obtain ⟨rfl, rfl, rfl⟩ := trodAll_nil r1
  obtain rfl : args = #[v0, v1] := by cases args; simp_all
  obtain ⟨rfl, rfl⟩ := trodVars_none hV
  obtain ⟨n0, rfl, rfl, rfl, wn0⟩ := open_int Try.underlying3 (hval 0 3 v0 rfl rfl) h0
  obtain ⟨n1, rfl, rfl, rfl, wn1⟩ := open_int Try.underlying3 (hval 1 3 v1 rfl rfl) h1
  clear hA0
  refine (walk n0 n1 W).mono fun e W' ⟨he, hg⟩ => ?_
  subst he
  have bel : Below W.heap.size W W' := (Below.refl _ W).grown hg (Nat.le_refl _) (by simp)
  exact ⟨_, rfl, _, _, _, [], _, [], hW', trodAll_mk1 (shut_bool Try.underlying4 _), (trodAll_cons_mk (shut_int Try.underlying3 wn0) (trodAll_cons_mk (shut_int Try.underlying3 wn1) trodAll_mk0)), rfl, bel.frame _, fun h => by cases h⟩

theorem over : Rows.deviceSizesRow.holds Try.pinned (OpenSpec.ofChange Rows.deviceSizesSpec) :=
  OpenClaim.holds_of_wide 4 Try.f4 rfl rfl rfl rfl rfl rfl rfl ⟨rfl, rfl, rfl, rfl, rfl⟩ rfl rfl rfl rfl rfl (by kernel_rfl) Try.func4 (by kernel_rfl)
    (of_decide_eq_true (by kernel_rfl)) (by unfold Func.isWrapper; first | (rw [if_pos (by decide +kernel)]; kernel_rfl) | (rw [if_neg (by decide +kernel)]; exact ⟨rfl, rfl⟩))
    (fun os started H enc _ => lifted os started H enc)
end Go.Proofs.Ytlalnaaeljikgaa.deviceSizes
namespace Go.Proofs.Ytlalnaaeljikgaa
theorem deviceSizes_holds : Rows.DeviceSizesSaid := deviceSizes.over
#print axioms deviceSizes_holds
end Go.Proofs.Ytlalnaaeljikgaa
