/- PackWrites: whatever the bytes and the thing are, the law PackWrites returns true and leaves its arguments as they were: numbers and texts as bytes are what the document says. No conditions. -/
import Derived.Test.YtbkkkjegbdbeeaaRows
import Derived.Test.YtbkkkjegbdbeeaaWrites
import Derived.OpenShut
import Derived.ShutString
import Derived.ChangeOld
import Derived.Below
import Derived.SizedLaws
import Derived.Lib.SmallJoins
namespace Go.Proofs.Ytbkkkjegbdbeeaa.packWrites
open Go.ChangeShapes Go.WideShapes Go.ChangeAt Go.RowKit Go.Joins
open Go.ChangeMaps (open_string shut_string)
set_option linter.unusedVariables false

theorem own : ownKnob Try.prog.godebug = none := by kernel_rfl
theorem laidOut : laidOutB Try.prog = true := by kernel_rfl
theorem cells25 : Try.prog.cellsOf 25 = 4 := by kernel_rfl
theorem bytes5 : Try.prog.bytesOf 5 = 1 := by kernel_rfl

theorem came_nil (W : World) (c : Nat) : Came W (.slice none 0 c) [] :=
  ⟨Src.ofNil (e' := 5) W Try.underlying22 c, by rw [run_convert_bytes_nil W 22 5 Try.underlying22 Try.underlying5 0 c 9 Try.underlying9]; rfl⟩
theorem came_some (W W' : World) (x : Addr) (len cap : Nat) (zs : List Int) (hl : len ≤ cap) (hz : zs.length = cap) (hcell : ∀ i, i < zs.length → W.cell? (x.add i) = some (.int .u8 (zs.getD i 0))) (hwz : ∀ n ∈ zs, (Lit.int .u8 n).wf = true) (hb : Below W.heap.size W W') :
    Came W' (.slice (some x) len cap) ((zs.take len).map fun n => UInt8.ofNat n.toNat) := by
  have hlen : ((zs.take len).map fun n : Int => UInt8.ofNat n.toNat).length = len := by simp; omega
  have hc : ∀ j (hj : j < ((zs.take len).map fun n : Int => UInt8.ofNat n.toNat).length), W'.cell? (x.add j) = some (.int .u8 ((((zs.take len).map fun n : Int => UInt8.ofNat n.toNat)[j].toNat : Nat) : Int)) := by
    intro j hj
    have hj' : j < zs.length := by omega
    have h1 := hcell j hj'
    rw [hb.cell (World.block_lt_of_cell? W _ h1), h1]
    have hm : zs[j] ∈ zs := List.getElem_mem hj'
    have hb := bounds_u8 (hwz _ hm)
    have eg : zs.getD j 0 = zs[j] := by simp [List.getD, hj']
    rw [eg]
    simp only [List.getElem_map, List.getElem_take]
    rw [UInt8.toNat_ofNat']
    congr 2
    omega
  constructor
  · rw [hlen]
    refine Src.ofSlice (e' := 5) W' Try.underlying22 x len cap _ (by rw [bcs_len, hlen, Nat.mul_one]) ?_ (bcs_one _)
    intro j u hj
    obtain ⟨hj1, hj2⟩ := List.getElem?_eq_some_iff.1 hj
    rw [bcs_len] at hj1
    rw [hc j hj1, ← hj2]
    simp [bcs]
  · have := run_convert_bytes_back (P := Try.prog) W' 22 9 5 x cap _ Try.underlying22 Try.underlying5 Try.underlying9 hc
    rw [hlen] at this
    exact this

set_option maxRecDepth 100000 in
theorem lifted (os : Os) (started : os.Started) (H : Type) (enc : TypeId × Value → H) :
    ReturnsInHanded {} Try.checked os 3 .any (Rows.packWritesSpec.pre6 enc Try.prog Try.f3 Rows.packWritesRow.domain false) (Rows.packWritesSpec.post enc Try.prog Try.f3 false true false false) := by
  refine returnsInHanded_of_change_sized (C := Try.checked) own started (by kernel_rfl) Try.func3
    (ChangeSpec.witness6 (enc := enc) (C := Try.checked) false ⟨#[], #[.slice none 0 0, .agg #[.int .i64 0, .int .i64 0, .int .u64 0, .string ByteArray.empty]], []⟩ 8 (by kernel_rfl) (by kernel_rfl) (by kernel_rfl) (by kernel_rfl)) ?_
  intro W base args ds gs before hval0 hW hcnd hsz0 _
  have hval : ∀ (j : Nat) t v, Try.f3.params[j]? = some t → args[j]? = some v → Value.okWide Try.prog W .any base t v := hval0
  have hsz : (DataW.weightsEach Try.prog (Try.f3.params.toList ++ Rows.packWritesSpec.plain.varTypes Try.prog) (ds ++ gs)).all (· ≤ reachBytes) = true := hsz0
  have hW' := hW
  obtain ⟨p, q, hA0, hV, rfl, hfz, hnd⟩ := hW
  have hA : DataW.TrodAll enc Try.prog W 0 (fun _ => true) true Try.f3.params.toList args.toList ds p := hA0
  rw [Try.params3] at hA hval hsz
  obtain ⟨v0, vs0, d0, ds0, p0, q0, hargs, rfl, rfl, h0, r0⟩ := trodAll_cons hA
  obtain ⟨v1, vs1, d1, ds1, p1, q1, rfl, rfl, rfl, h1, r1⟩ := trodAll_cons r0
  obtain ⟨rfl, rfl, rfl⟩ := trodAll_nil r1
  obtain rfl : args = #[v0, v1] := by cases args; simp_all
  obtain ⟨rfl, rfl⟩ := trodVars_none hV
  have k0 := h0
  have lt0 : ∀ x ∈ p0, x.block < W.heap.size := by obtain ⟨m, hm⟩ := k0; exact DataW.trod_lt m _ _ _ hm
  have k1 := h1
  have lt1 : ∀ x ∈ p1, x.block < W.heap.size := by obtain ⟨m, hm⟩ := k1; exact DataW.trod_lt m _ _ _ hm
  obtain ⟨a0, len0, cap0, rfl⟩ := okWide_slice Try.underlying22 (hval 0 22 v0 rfl rfl)
  obtain ⟨l, hl, hcame⟩ : ∃ l : List UInt8, l.length ≤ 140737488351232 ∧ ∀ W' : World, Below W.heap.size W W' → Came W' (.slice a0 len0 cap0) l := by
    obtain ⟨fuel, hf⟩ := h0
    rcases open_ints Try.underlying22 Try.underlying5 (by kernel_rfl) hf with ⟨hcs, hx⟩ | ⟨x, l, c, zs, hcs, _, hl, hm, hz, hx, hcell, hwz⟩
    · simp [Value.cells] at hcs
      obtain ⟨rfl, rfl, rfl⟩ := hcs
      exact ⟨[], by simp, fun W' _ => came_nil W' 0⟩
    · simp [Value.cells] at hcs
      obtain ⟨rfl, rfl, rfl⟩ := hcs
      simp only [Prod.mk.injEq] at hx
      obtain ⟨rfl, _⟩ := hx
      refine ⟨_, ?_, fun W' hb => came_some W W' x len0 cap0 zs hl (by simpa using hz) hcell hwz hb⟩
      have := sized_slice hsz (j := 0) (t := 22) (e := 5) rfl rfl Try.underlying22
      rw [bytes5] at this
      simp only [lits, List.length_map, List.length_take, List.length_drop, reachBytes] at this
      simp
      omega
  obtain ⟨c0, c1, c2, c3, y0, y1, y2, y3, m, hv0, hd0, hp0, hy0, hy1, hy2, hy3⟩ := open_agg4 Try.underlying25 (by kernel_rfl) cells25 (hval 1 25 v1 rfl rfl) h1
  obtain ⟨t, e0, f0, wt⟩ := DataW.trod_int Try.underlying3 hy0
  obtain ⟨k, e1, f1, wk⟩ := DataW.trod_int Try.underlying3 hy1
  obtain ⟨n, e2, f2, wn⟩ := DataW.trod_int Try.underlying23 hy2
  obtain ⟨s, e3, f3, hs⟩ := DataW.trod_string Try.underlying9 hy3
  simp at e0 e1 e2 e3
  subst e0 e1 e2 e3 hv0
  clear hA0 hval0
  have b0 := bounds_u64 wn
  obtain ⟨x, rfl⟩ := Int.eq_ofNat_of_zero_le b0.1
  refine (walk _ l t k x s W (by omega) hs hl hcame).mono fun e W' ⟨he, bel⟩ => ?_
  subst he
  exact ⟨_, rfl, _, _, _, [], _, [], hW', trodAll_mk1 (shut_bool Try.underlying4 _), (trodAll_cons_mk (Below.trod laidOut (by kernel_rfl) (of_decide_eq_true (by kernel_rfl)) k0 bel lt0) (trodAll_cons_mk (Below.trod laidOut (by kernel_rfl) (of_decide_eq_true (by kernel_rfl)) k1 bel lt1) trodAll_mk0)), rfl, bel.frame _, fun h => by cases h⟩

theorem over : Rows.packWritesRow.holds Try.pinned (OpenSpec.ofChange Rows.packWritesSpec) :=
  OpenClaim.holds_of_wide 3 Try.f3 rfl rfl rfl rfl rfl rfl rfl ⟨rfl, rfl, rfl, rfl, rfl⟩ rfl rfl rfl rfl rfl (by kernel_rfl) Try.func3 (by kernel_rfl)
    (of_decide_eq_true (by kernel_rfl)) (by unfold Func.isWrapper; first | (rw [if_pos (by decide +kernel)]; kernel_rfl) | (rw [if_neg (by decide +kernel)]; exact ⟨rfl, rfl⟩))
    (fun os started H enc _ => lifted os started H enc)
end Go.Proofs.Ytbkkkjegbdbeeaa.packWrites
namespace Go.Proofs.Ytbkkkjegbdbeeaa
theorem packWrites_holds : Rows.PackWritesSaid := packWrites.over
#print axioms packWrites_holds
end Go.Proofs.Ytbkkkjegbdbeeaa
