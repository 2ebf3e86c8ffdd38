/- DeviceNil: whatever the step is, the law DeviceNil returns true and leaves its argument as it was: a device that isn't there does nothing, and answers as the document says. No conditions. -/
import Derived.Test.YtlalnaaeljikgaaRows
import Derived.Test.YtlalnaaeljikgaaDOpen
import Derived.OpenShut
import Derived.ShutString
import Derived.ChangeOld
import Derived.Below
namespace Go.Proofs.Ytlalnaaeljikgaa.deviceNil
open Go.ChangeShapes Go.WideShapes Go.ChangeAt Go.RowKit Go.Joins
open Go.ChangeMaps (open_string shut_string)
set_option linter.unusedVariables false

theorem own : ownKnob Try.prog.godebug = none := by kernel_rfl
theorem laidOut : laidOutB Try.prog = true := by kernel_rfl

set_option maxRecDepth 100000 in
set_option maxHeartbeats 800000 in
theorem walk (o : OpD) (w : World) : Calls Try.prog 8 #[.agg o.cells] w fun e w' => e = .returned (.bool true) ∧ w.grownBy w' none := by
  have hka := Kp.alloc none' w (.cells o.cells 34)
  have hb := new_row w o.cells 34
  obtain ⟨wa, Ha⟩ : ∃ wa, Hid (w.alloc (.cells o.cells 34) = wa) := ⟨_, rfl⟩
  rw [Ha.out] at hka hb
  obtain ⟨g, HG⟩ : ∃ g, Hid (w.heap.size = g) := ⟨_, rfl⟩
  rw [HG.out] at hb
  have c0 : wa.cell? ⟨g, 0, none⟩ = some (.int .i64 o.k) := by rw [cell_of_row _ _ _ _ _ _ hb]; rfl
  have c1 : wa.cell? ⟨g, 1, none⟩ = some (.int .i64 o.i) := by rw [cell_of_row _ _ _ _ _ _ hb]; rfl
  have c2 : wa.cell? ⟨g, 2, none⟩ = some (.string o.s) := by rw [cell_of_row _ _ _ _ _ _ hb]; rfl
  have c3 : wa.cell? ⟨g, 3, none⟩ = some o.kv := by rw [cell_of_row _ _ _ _ _ _ hb]; rfl
  have c4 : wa.cell? ⟨g, 4, none⟩ = some (.int .i64 o.c) := by rw [cell_of_row _ _ _ _ _ _ hb]; rfl
  clear hb
  go_enter Try.func8, Try.ntmps8
  go_upto_region 1 with fail
  rw [Ha.out, HG.out]
  go_upto_region 4 with (go_at_call 9; refine (dlives_any _).mono ?_; rintro e wb ⟨rfl, hkb⟩)
  have d0 := hkb.cell c0 (fun h => h)
  have d1 := hkb.cell c1 (fun h => h)
  have d2 := hkb.cell c2 (fun h => h)
  have d3 := hkb.cell c3 (fun h => h)
  have d4 := hkb.cell c4 (fun h => h)
  clear c0 c1 c2 c3 c4
  go_upto_region 5 with (go_at_call 13; refine (does_nil o _).mono ?_; rintro e wc ⟨rfl, hkc⟩)
  have e0 := hkc.cell d0 (fun h => h)
  have e1 := hkc.cell d1 (fun h => h)
  have e2 := hkc.cell d2 (fun h => h)
  have e3 := hkc.cell d3 (fun h => h)
  have e4 := hkc.cell d4 (fun h => h)
  clear d0 d1 d2 d3 d4
  obtain ⟨N, HN⟩ : ∃ N, Hid (nilE o = N) := ⟨_, rfl⟩
  rw [HN.out]
  have hN : (N == 1) = decide (o.kind < 2) := by
    rw [← HN.out]
    unfold nilE
    split
    · rename_i h; simp [h]
    · rename_i h; simp [h]
  obtain ⟨b, Hb⟩ : ∃ b, Hid (decide (o.kind < 2) = b) := ⟨_, rfl⟩
  rw [Hb.out] at hN
  go_wp2_with (first
    | (go_at_call 26; refine (kind_any o _).mono ?_; rintro e wd ⟨rfl, hkd⟩; have f1 := hkd.cell e1 (fun h => h); have hb2 := Hb.out)
    | (go_at_call 19; refine (read_nil _ _).mono ?_; rintro e we ⟨rfl, rfl⟩)
    | (go_at_call 21; refine (size_nil _).mono ?_; rintro e we ⟨rfl, rfl⟩)
    | (go_at_call 15; refine (calls_nil _).mono ?_; rintro e we ⟨rfl, rfl⟩)
    | (go_at_call 17; refine (unsure_nil _).mono ?_; rintro e we ⟨rfl, rfl⟩)
    | fail)
  go_ret
  exact ⟨rfl, (((hka.then hkb).then hkc).then hkd).grown⟩

set_option maxRecDepth 100000 in
theorem lifted (os : Os) (started : os.Started) (H : Type) (enc : TypeId × Value → H) :
    ReturnsInHanded {} Try.checked os 8 .any (Rows.deviceNilSpec.pre6 enc Try.prog Try.f8 Rows.deviceNilRow.domain false) (Rows.deviceNilSpec.post enc Try.prog Try.f8 false true false false) := by
  refine returnsInHanded_of_change (C := Try.checked) own started (by kernel_rfl) Try.func8
    (ChangeSpec.witness6 (enc := enc) (C := Try.checked) false ⟨#[], #[.agg #[.int .i64 0, .int .i64 0, .string ByteArray.empty, .slice none 0 0, .int .i64 0]], []⟩ 8 (by kernel_rfl) (by kernel_rfl) (by kernel_rfl) (by kernel_rfl)) ?_
  intro W base args ds gs before hval0 hW hcnd _
  have hval : ∀ (j : Nat) t v, Try.f8.params[j]? = some t → args[j]? = some v → Value.okWide Try.prog W .any base t v := hval0
  have hW' := hW
  obtain ⟨p, q, hA0, hV, rfl, hfz, hnd⟩ := hW
  have hA : DataW.TrodAll enc Try.prog W 0 (fun _ => true) true Try.f8.params.toList args.toList ds p := hA0
  rw [Try.params8] at hA hval
  obtain ⟨v0, vs0, d0, ds0, p0, q0, hargs, rfl, rfl, h0, r0⟩ := trodAll_cons hA
  obtain ⟨rfl, rfl, rfl⟩ := trodAll_nil r0
  obtain rfl : args = #[v0] := by cases args; simp_all
  obtain ⟨rfl, rfl⟩ := trodVars_none hV
  have k0 := h0
  have lt0 : ∀ x ∈ p0, x.block < W.heap.size := by obtain ⟨m, hm⟩ := k0; exact DataW.trod_lt m _ _ _ hm
  obtain ⟨o0, rfl, ho0⟩ := open_op (hval 0 34 v0 rfl rfl) h0
  clear hA0
  refine (walk o0 W).mono fun e W' ⟨he, hg⟩ => ?_
  subst he
  have bel : Below W.heap.size W W' := (Below.refl _ W).grown hg (Nat.le_refl _) (by simp)
  exact ⟨_, rfl, _, _, _, [], _, [], hW', trodAll_mk1 (shut_bool Try.underlying4 _), (trodAll_cons_mk (Below.trod laidOut (by kernel_rfl) (of_decide_eq_true (by kernel_rfl)) k0 bel lt0) trodAll_mk0), rfl, bel.frame _, fun h => by cases h⟩

theorem over : Rows.deviceNilRow.holds Try.pinned (OpenSpec.ofChange Rows.deviceNilSpec) :=
  OpenClaim.holds_of_wide 8 Try.f8 rfl rfl rfl rfl rfl rfl rfl ⟨rfl, rfl, rfl, rfl, rfl⟩ rfl rfl rfl rfl rfl (by kernel_rfl) Try.func8 (by kernel_rfl)
    (of_decide_eq_true (by kernel_rfl)) (by unfold Func.isWrapper; first | (rw [if_pos (by decide +kernel)]; kernel_rfl) | (rw [if_neg (by decide +kernel)]; exact ⟨rfl, rfl⟩))
    (fun os started H enc _ => lifted os started H enc)
end Go.Proofs.Ytlalnaaeljikgaa.deviceNil
namespace Go.Proofs.Ytlalnaaeljikgaa
theorem deviceNil_holds : Rows.DeviceNilSaid := deviceNil.over
#print axioms deviceNil_holds
end Go.Proofs.Ytlalnaaeljikgaa
