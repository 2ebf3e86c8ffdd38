/- Contracts, over the turned program: undo.filled, undo.Mark, undo.Marked, undo.Image, undo.Place, undo.Need. Conditions: those that each theorem states. -/
import Derived.Test.YtgfijbbibafdfaaGreatGBase
import Derived.Test.YtgfijbbibafdfaaGreatRead
import Derived.Test.YtgfijbbibafdfaaGreatSlab
import Derived.Laws.CopyRow
namespace Go.Proofs.YtgfijbbibafdfaaGreat
open Go.RowKit
open Go.ChangeMaps (setBlock)
set_option linter.unusedVariables false

theorem zeroArr (w : World) : (zeroValue 78).run Tryz.prog w = .ok (.agg (bcs noughts).toArray) w := Tryz.zeroValue78 w
theorem wpList_alloc_arr {w : World} {ops : Array Oper} {rest : List Oper} {o : Oper} {a : Act} {Q : Exit → Act → World → Prop} (hgd : o.guard = none) (ho : o.op = .alloc 78)
    (h : wpList Tryz.prog ops Q rest (a.put o.dst (.pointer (some ⟨w.heap.size, 0, none⟩))) (w.alloc (.cells (bcs noughts).toArray 78))) : wpList Tryz.prog ops Q (o :: rest) a w :=
  wpList_plain hgd fun _ hK => by
    unfold Oper.wp execOp
    simp only [ho, Instr.alloc, newVar, newRow, Value.cells, Sem.run_bind, Sem.run_pure, Result.andThen_ok, zeroArr]
    exact hK _ _ h
theorem whole_cells (l : List UInt8) : ((bcs noughts).toArray.toList.take 0 ++ (bcs l).take 64 ++ (bcs noughts).toArray.toList.drop (0 + ((bcs l).take 64).length)).toArray = (bcs (whole l)).toArray := by
  have hl : ((bcs l).take 64).length = min 64 l.length := by rw [List.length_take, bcs_len]
  have e : whole l = l.take 64 ++ noughts.drop (min 64 l.length) := by
    unfold whole
    rw [List.take_append]
    congr 1
    unfold noughts
    rw [List.take_replicate, List.drop_replicate]
    congr 1
    omega
  rw [e, bcs_append, hl]
  simp [bcs, List.map_drop, List.map_take]
theorem run_copy_own (w : World) (v : Value) (l : List UInt8) (base : Nat) (h : Own 5 w base v l) :
    ∃ n : Nat, (Builtin.copy_ #[39, 39] 3 #[.slice (some ⟨w.heap.size, 0, none⟩) 64 64, v]).run Tryz.prog (w.alloc (.cells (bcs noughts).toArray 78)) =
    .ok (goInt n) (w.alloc (.cells (bcs (whole l)).toArray 78)) := by
  have h' := h.alloc (.cells (bcs noughts).toArray 78)
  rcases h'.shape with ⟨rfl, rfl⟩ | ⟨g, cap, rfl, _, _, hc⟩
  · refine ⟨0, ?_⟩
    rw [run_copy_nil (P := Tryz.prog) _ 39 39 3 5 _ 64 64 Tryz.underlying39 (by kernel_rfl)]
    rfl
  · refine ⟨((bcs l).take 64).length, ?_⟩
    · have hr := run_copy_row (P := Tryz.prog) (w.alloc (.cells (bcs noughts).toArray 78)) 39 39 3 5 w.heap.size 0 64 64 ⟨g, 0, none⟩ l.length cap (bcs noughts).toArray 78 ((bcs l).take 64) Tryz.underlying39 (by kernel_rfl) (heap_alloc_last w _)
        (by rw [List.length_take, bcs_len]; exact Nat.min_comm _ _) (fun j u hj => by
          have hlt := (List.getElem?_eq_some_iff.1 hj).1
          rw [List.length_take, bcs_len] at hlt
          rw [List.getElem?_take_of_lt (by omega), bcs_at l j (by omega)] at hj
          have e : (⟨g, 0, none⟩ : Addr).add j = ⟨g, j, none⟩ := by unfold Addr.add; split <;> simp_all
          rw [e, hc j (by omega)]
          exact hj) (by rw [List.length_take, bcs_len]; simp [bcs_len, noughts_len]; omega) (fun u hu => bcs_one l u (List.mem_of_mem_take hu))
      rw [hr, whole_cells l, World.setRow_alloc_new]
theorem arr_cells (w : World) (x : List UInt8) (t : TypeId) (j : Nat) (hj : j < x.length) : (w.alloc (.cells (bcs x).toArray t)).cell? ((⟨w.heap.size, 0, none⟩ : Addr).add j) = some (.int .u8 (x[j].toNat : Int)) := by
  have e : (⟨w.heap.size, 0, none⟩ : Addr).add j = ⟨w.heap.size, j, none⟩ := by unfold Addr.add; split <;> simp_all
  rw [e, cell_of_row _ _ _ _ _ _ (heap_alloc_last w _)]
  simpa using bcs_at x j hj
theorem run_str_arr (w : World) (x : List UInt8) (hx : x.length = 64) : (convert 39 9 (.slice (some ⟨w.heap.size, 0, none⟩) 64 64)).run Tryz.prog (w.alloc (.cells (bcs x).toArray 78)) = .ok (.string ⟨x.toArray⟩) (w.alloc (.cells (bcs x).toArray 78)) := by
  have := run_convert_bytes_back (P := Tryz.prog) (w.alloc (.cells (bcs x).toArray 78)) 39 9 5 ⟨w.heap.size, 0, none⟩ 64 x Tryz.underlying39 Tryz.underlying5 Tryz.underlying9 (fun j hj => arr_cells w x _ j hj)
  rw [hx] at this
  exact this

set_option maxRecDepth 100000 in
set_option maxHeartbeats 400000 in
theorem filled_any (v : Value) (l : List UInt8) (base : Nat) (w : World) (h : Own 5 w base v l) :
    Calls Tryz.prog 55 #[v] w fun e w' => e = .returned (.string ⟨(whole l).toArray⟩) ∧ Kp none' w w' := by
  obtain ⟨n, hcp⟩ := run_copy_own w v l base h
  have hcv := run_str_arr w (whole l) (whole_len l)
  have hka := Kp.alloc none' w (.cells (bcs (whole l)).toArray 78)
  clear h
  obtain ⟨X, HX⟩ : ∃ X, Hid (whole l = X) := ⟨_, rfl⟩
  rw [HX.out] at hcp hcv hka ⊢
  go_enter Tryz.func55, Tryz.ntmps55
  go_upto_region 1 with fail
  refine wp_region_lit ?_
  refine wpList_alloc_arr rfl rfl ?_
  go_frame
  obtain ⟨w2, H2⟩ : ∃ w2, Hid (w.alloc (.cells (bcs noughts).toArray 78) = w2) := ⟨_, rfl⟩
  obtain ⟨w3, H3⟩ : ∃ w3, Hid (w.alloc (.cells (bcs X).toArray 78) = w3) := ⟨_, rfl⟩
  rw [H3.out] at hcp hcv hka
  rw [H2.out] at hcp ⊢
  generalize w.heap.size = g at *
  go_wp2_with (refine wpList_copy_at _ rfl (.tmp 4) (.tmp 5) 39 39 rfl _ _ rfl rfl hcp ?_)
  go_ret
  exact ⟨rfl, hka⟩

/-- Mark's bytes. -/
def markL (b : Bool) : List UInt8 := whole (if b then [1] else [])
theorem own_one (w : World) (c : UInt8) (z : Int) (hz : z = (c.toNat : Int)) : Own 5 (w.alloc (.cells #[.int .u8 z] 5)) w.heap.size (.slice (some ⟨w.heap.size, 0, none⟩) 1 1) [c] := by
  subst hz
  exact ⟨by simp [bcs], .inr ⟨w.heap.size, 1, _, rfl, Nat.le_refl _, heap_alloc_last w _, by simp, by unfold maxLen; omega, by simp, by simp [bcs]⟩⟩
set_option maxRecDepth 100000 in
set_option maxHeartbeats 400000 in
theorem mark_any (b : Bool) (w : World) : Calls Tryz.prog 35 #[.bool b] w fun e w' => e = .returned (.string ⟨(markL b).toArray⟩) ∧ Kp none' w w' := by
  cases b
  · go_enter Tryz.func35, Tryz.ntmps35
    go_wp2_with (go_at_call 55; refine (filled_any _ [] 0 _ (Own.nil _ _ _)).mono ?_; rintro e w' ⟨rfl, hk⟩)
    go_ret
    exact ⟨rfl, hk⟩
  · have ho := own_one w 1 1 rfl
    have hka := Kp.alloc none' w (.cells #[.int .u8 1] 5)
    go_enter Tryz.func35, Tryz.ntmps35
    go_wp2_with (go_at_call 55; refine (filled_any _ [1] _ _ ho).mono ?_; rintro e w' ⟨rfl, hk⟩)
    go_ret
    exact ⟨rfl, hka.then hk⟩
/-- Whether bytes say yes. -/
def saysB (s : ByteArray) : Bool := strN s != 0
set_option maxRecDepth 100000 in
set_option maxHeartbeats 400000 in
theorem marked_any (s : ByteArray) (w : World) : Calls Tryz.prog 44 #[.string s] w fun e w' => e = .returned (.bool (saysB s)) ∧ w' = w := by
  by_cases hs : 0 < s.size
  · have hN := strN_eq s hs
    have hi : 0 < (s.size : Int) := by omega
    have hb : ((strN s : Int) != 0) = saysB s := by
      unfold saysB
      rw [Bool.eq_iff_iff]
      simp
    go_enter Tryz.func44, Tryz.ntmps44
    go_wp2
    go_ret
    exact ⟨rfl, rfl⟩
  · have hz : s.size = 0 := by omega
    have hd : s.data.toList = [] := List.eq_nil_of_length_eq_zero (by rw [Array.length_toList]; exact hz)
    have hb : saysB s = false := by simp [saysB, strN, hd]
    rw [hb]
    go_enter Tryz.func44, Tryz.ntmps44
    go_wp2
    go_ret
    exact ⟨rfl, rfl⟩

set_option maxHeartbeats 400000 in
theorem image_any (k j : Int) (w : World) : Calls Tryz.prog 48 #[.int .i64 k, .int .i64 j] w fun e w' => e = .returned (.int .i64 (wrap64 (2 + 4 * k + j))) ∧ w' = w := by
  go_enter Tryz.func48, Tryz.ntmps48
  go_wp2
  go_ret
  exact ⟨reti (by first | rfl | go_num | (unfold wrap64; omega)), rfl⟩
set_option maxHeartbeats 400000 in
theorem place_any (k j : Int) (w : World) : Calls Tryz.prog 43 #[.int .i64 k, .int .i64 j] w fun e w' => e = .returned (.int .i64 (wrap64 (126 + 4 * k + j))) ∧ w' = w := by
  go_enter Tryz.func43, Tryz.ntmps43
  go_wp2
  go_ret
  exact ⟨reti (by first | rfl | go_num | (unfold wrap64; omega)), rfl⟩
set_option maxHeartbeats 400000 in
theorem need_any (k : Int) (w : World) : Calls Tryz.prog 8 #[.int .i64 k] w fun e w' => e = .returned (.int .i64 (wrap64 (126 + 4 * k))) ∧ w' = w := by
  go_enter Tryz.func8, Tryz.ntmps8
  go_wp2
  go_ret
  exact ⟨reti (by first | rfl | go_num | (unfold wrap64; omega)), rfl⟩

end Go.Proofs.YtgfijbbibafdfaaGreat
