/- PackBack: for all things that together hold at most 1048576 values and letters, the law PackBack returns true and leaves its argument as it was: what is written is read again, in whatever order. The condition is the second form's own bound. -/
import Derived.Test.YtbkkkjegbdbeeaaRows
import Derived.Test.YtbkkkjegbdbeeaaThings
import Derived.Test.YtbkkkjegbdbeeaaBackWalk
import Derived.OpenShut
import Derived.ShutString
import Derived.ChangeOld
import Derived.Below
import Derived.JoinedCond
namespace Go.Proofs.Ytbkkkjegbdbeeaa.packBack
open Go.ChangeShapes Go.WideShapes Go.ChangeAt Go.RowKit Go.Joins
open packReads (Th Lies thData)
set_option linter.unusedVariables false

theorem own : ownKnob Try.prog.godebug = none := by kernel_rfl
theorem laidOut : laidOutB Try.prog = true := by kernel_rfl

set_option maxRecDepth 100000 in
set_option maxHeartbeats 400000 in
theorem walk0 (a0 : Option Addr) (cap : Nat) (w : World) :
    Calls Try.prog 5 #[.slice a0 0 cap] w fun e w' => e = .returned (.bool true) ∧ Below w.heap.size w w' := by
  have hcv : ∀ W : World, (convert 22 9 (.slice none 0 0)).run Try.prog W = .ok (.string ByteArray.empty) W := fun W => run_convert_bytes_nil W 22 5 Try.underlying22 Try.underlying5 0 0 9 Try.underlying9
  go_enter Try.func5, Try.ntmps5
  go_wp2_with (first | (go_at_call 9; refine (lives_any _).mono ?_; rintro e w1 ⟨rfl, hb⟩))
  refine wp_loop_rounds 1 ?_
  rw [rounds_succ]
  go_wp2_with (go_at_call 16; refine (from_any _ _).mono ?_; rintro e w2 ⟨rfl, rfl⟩)
  have hR : Rd (w1.alloc (.cells #[.string ByteArray.empty, .int .i64 0] 52)) w1.heap.size ByteArray.empty 0 := Rd.new _ _ _
  have hb2 := hb.alloc hb.size (.cells #[.string ByteArray.empty, .int .i64 0] 52)
  refine wp_loop_rounds 1 ?_
  rw [rounds_succ]
  go_wp2_with (go_at_call 27; refine (done0 _ _ hR).mono ?_; rintro x w7 ⟨rfl, rfl⟩)
  go_ret
  exact ⟨rfl, hb2⟩

theorem bulk_append {H : Type} (l r : List (DataW H)) : Rows.uptoBulkAll (l ++ r) = Rows.uptoBulkAll l + Rows.uptoBulkAll r := by
  induction l with
  | nil => simp [Rows.uptoBulkAll]
  | cons x l ih => simp only [List.cons_append, Rows.uptoBulkAll, ih]; omega
theorem bulk_thing {H : Type} (x : Th) : Rows.uptoBulk (thData (H := H) x) = x.s.size + 5 := by
  simp only [thData, Rows.uptoBulk, Rows.uptoBulkAll, len_data]
  omega
theorem enc1_len (x : Th) : (enc1 x).length ≤ 256 + x.s.size := by
  unfold enc1
  split
  · rw [be_len]; have := wid_hi x.k; omega
  · split
    · have := strB_len x.s.data.toList; omega
    · rw [len_data]; omega
theorem enc_bulk {H : Type} (th : Nat → Th) : ∀ j, (encTo th j).length ≤ 256 * Rows.uptoBulkAll ((List.range j).map fun i => thData (H := H) (th i)) := by
  intro j
  induction j with
  | zero => simp [encTo]
  | succ j ih =>
    rw [List.range_succ, List.map_append, bulk_append]
    simp only [encTo, List.length_append, List.map_cons, List.map_nil, Rows.uptoBulkAll, bulk_thing]
    have := enc1_len (th j)
    omega
theorem bound {H : Type} {l : List (DataW H)} (hk : Rows.uptoSmall H l = true) : Rows.uptoBulkAll l ≤ 1048576 := of_decide_eq_true hk

theorem contract (H : Type) (enc : TypeId × Value → H) (W : World) (base : Nat) (args : Array Value) (ds gs : List (DataW H)) (before : List MemPlace)
    (hval : ∀ (j : Nat) t v, Try.f5.params[j]? = some t → args[j]? = some v → Value.okWide Try.prog W .any base t v)
    (hW : DataW.Whole enc Try.prog Try.f5.params.toList Rows.packBackSpec.vars false W args.toList ds gs before) (hk : Rows.uptoSmall H (ds ++ gs) = true) :
    Calls Try.prog 5 args W fun e W' => ∃ v, e = .returned v ∧ Rows.packBackSpec.post enc Try.prog Try.f5 false true false false W args v W' := by
  have hW' := hW
  obtain ⟨p, q, hA0, hV, rfl, hfz, hnd⟩ := hW
  have hA : DataW.TrodAll enc Try.prog W 0 (fun _ => true) true Try.f5.params.toList args.toList ds p := hA0
  rw [Try.params5] at hA hval
  obtain ⟨v0, vs0, d0, ds0, p0, q0, hargs, rfl, rfl, h0, r0⟩ := trodAll_cons hA
  obtain ⟨rfl, rfl, rfl⟩ := trodAll_nil r0
  obtain rfl : args = #[v0] := by cases args; simp_all
  obtain ⟨rfl, rfl⟩ := trodVars_none hV
  have k0 := h0
  have lt0 : ∀ x ∈ p0, x.block < W.heap.size := by obtain ⟨m, hm⟩ := k0; exact DataW.trod_lt m _ _ _ hm
  obtain ⟨a0, len0, cap0, rfl⟩ := okWide_slice Try.underlying33 (hval 0 33 v0 rfl rfl)
  clear hA0
  have hw : Calls Try.prog 5 #[.slice a0 len0 cap0] W fun e w' => e = .returned (.bool true) ∧ Below W.heap.size W w' := by
    rcases packReads.open_things h0 with rfl | ⟨b, off, th, sp, rfl, hl, hm, hL, hT, hd⟩
    · exact walk0 a0 cap0 W
    · refine walk b off len0 cap0 th W (by unfold maxLen at hm; omega) hL hT ?_
      have h1 := bound hk
      rw [hd] at h1
      simp only [List.append_nil, Rows.uptoBulkAll, Rows.uptoBulk] at h1
      have h2 := enc_bulk (H := H) th len0
      omega
  refine hw.mono fun e W' ⟨he, bel⟩ => ?_
  subst he
  exact ⟨_, rfl, _, _, _, [], _, [], hW', trodAll_mk1 (shut_bool Try.underlying4 _), (trodAll_cons_mk (Below.trod laidOut (by kernel_rfl) (of_decide_eq_true (by kernel_rfl)) k0 bel lt0) trodAll_mk0), rfl, bel.frame _, fun h => by cases h⟩

set_option maxRecDepth 100000 in
theorem lifted (os : Os) (started : os.Started) (H : Type) (enc : TypeId × Value → H) (F : Stop.Interp) :
    ReturnsInHanded {} Try.checked os 5 .any ((Rows.OpenSpec.upto Rows.packBackSpec).pre6 enc Try.prog Try.f5 Rows.packBackUptoRow.domain false) (((Rows.OpenSpec.upto Rows.packBackSpec).at F).post enc Try.prog Try.f5 false true false false) := by
  refine returnsInHanded_of_cond (C := Try.checked) (s := Rows.OpenSpec.upto Rows.packBackSpec) (k := Rows.uptoSmall) rfl own started (by kernel_rfl) Try.func5
    (OpenSpec.witness (enc := enc) (C := Try.checked) (s := Rows.OpenSpec.upto Rows.packBackSpec) (k := Rows.uptoSmall) rfl false ⟨#[], #[.slice none 0 0], []⟩ 8 (by kernel_rfl) (by kernel_rfl) (by kernel_rfl)
      (x := ([.nil], [], [])) (by kernel_rfl) rfl (by kernel_rfl)) ?_
  intro W base args ds gs before hval hW _ hk _
  exact contract H enc W base args ds gs before hval hW hk

theorem over : Rows.packBackUptoRow.holds Try.pinned (Rows.OpenSpec.upto Rows.packBackSpec) :=
  OpenClaim.holds_of_cond 5 Try.f5 rfl rfl rfl rfl rfl rfl rfl ⟨rfl, rfl, rfl, rfl, rfl⟩ rfl rfl rfl rfl rfl (by kernel_rfl) Try.func5 (by kernel_rfl)
    (of_decide_eq_true (by kernel_rfl)) (by unfold Func.isWrapper; first | (rw [if_pos (by decide +kernel)]; kernel_rfl) | (rw [if_neg (by decide +kernel)]; exact ⟨rfl, rfl⟩))
    (fun os started H enc _ F => lifted os started H enc F)
end Go.Proofs.Ytbkkkjegbdbeeaa.packBack
namespace Go.Proofs.Ytbkkkjegbdbeeaa
theorem packBackUpto_holds : Rows.PackBackUptoSaid := packBack.over
#print axioms packBackUpto_holds
end Go.Proofs.Ytbkkkjegbdbeeaa
