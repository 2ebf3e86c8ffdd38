/- Contracts, over the turned program: device.New. Conditions: those that each theorem states. -/
import Derived.Test.YtgfijbbibafdfaaGreatDRead
import Derived.Carry
import Derived.Laws.MakeOwn
namespace Go.Proofs.YtgfijbbibafdfaaGreat
open Go.RowKit
open Go.ChangeMaps (setBlock)
set_option linter.unusedVariables false

theorem infoSecZ : (Tryz.prog.info? 79).map (fun i => (i.zero, i.size, i.bytes)) = some (some (.agg (bcs noughts).toArray), 64, 64) := by kernel_rfl
theorem made_at (N k : Nat) (hk : k < N * 64) : (madeCells (bcs noughts).toArray (N * 64))[k]? = some (.int .u8 0) := by
  have hm : k % 64 < 64 := Nat.mod_lt _ (by omega)
  have hs : (bcs noughts).toArray.size = 64 := by simp [bcs_len, noughts_len]
  unfold madeCells
  rw [Array.getElem?_map, Array.getElem?_range, if_pos hk, hs]
  simp only [Option.map_some, Option.some.injEq]
  rw [getElem!_pos (bcs noughts).toArray (k % 64) (by omega)]
  have h1 := bcs_at noughts (k % 64) (by rw [noughts_len]; exact hm)
  have e0 : noughts[k % 64]'(by rw [noughts_len]; exact hm) = 0 := by unfold noughts; exact List.getElem_replicate _
  rw [e0] at h1
  exact (List.getElem?_eq_some_iff.1 h1).2
/-- A new device. -/
def fresh (N : Nat) : Dv := { n := N, s := fun _ => noughts, u := fun _ => none, c := 0, st := false, f := 0 }
theorem fresh_dev (w : World) (N : Nat) (hN : N ≤ 4096) :
    Dev (((w.alloc (.cells (madeCells (bcs noughts).toArray (N * 64)) 79)).alloc (.map #[] 0)).alloc (.cells #[.slice (some ⟨w.heap.size, 0, none⟩) N N, .map (some (w.heap.size + 1)), .int .i64 0, .bool false, .int .i64 0] 64))
      ⟨w.heap.size + 2, w.heap.size, w.heap.size + 1⟩ (fresh N) := by
  obtain ⟨wa, Ha⟩ : ∃ wa, wa = w.alloc (.cells (madeCells (bcs noughts).toArray (N * 64)) 79) := ⟨_, rfl⟩
  have sa : wa.heap.size = w.heap.size + 1 := by rw [Ha]; simp
  obtain ⟨wb, Hb⟩ : ∃ wb, wb = wa.alloc (.map #[] 0) := ⟨_, rfl⟩
  have sb : wb.heap.size = w.heap.size + 2 := by rw [Hb]; simp [sa]
  rw [← Ha, ← Hb]
  have ba : wa.heap[w.heap.size]? = some (.cells (madeCells (bcs noughts).toArray (N * 64)) 79 (0, 0)) := by rw [Ha]; exact heap_alloc_new w _
  have bb : wb.heap[w.heap.size + 1]? = some (.map #[] 0) := by rw [Hb, ← sa]; exact heap_alloc_new wa _
  have hk1 : Kp none' wa wb := by rw [Hb]; exact Kp.alloc _ _ _
  generalize ho : Obj.cells #[.slice (some ⟨w.heap.size, 0, none⟩) N N, .map (some (w.heap.size + 1)), .int .i64 0, .bool false, .int .i64 0] 64 = ob
  have hk2 : Kp none' wb (wb.alloc ob) := Kp.alloc _ _ _
  have bc : (wb.alloc ob).heap[w.heap.size + 2]? = some (.cells #[.slice (some ⟨w.heap.size, 0, none⟩) N N, .map (some (w.heap.size + 1)), .int .i64 0, .bool false, .int .i64 0] 64 (0, 0)) := by rw [← sb, ho]; exact heap_alloc_new wb _
  have ba2 : (wb.alloc ob).heap[w.heap.size]? = some (.cells (madeCells (bcs noughts).toArray (N * 64)) 79 (0, 0)) := by
    rw [hk2.block _ (by omega) (fun h => h), hk1.block _ (by omega) (fun h => h)]
    exact ba
  have bb2 : (wb.alloc ob).heap[w.heap.size + 1]? = some (.map #[] 0) := by
    rw [hk2.block _ (by omega) (fun h => h)]
    exact bb
  refine ⟨by rw [cell_of_row _ _ _ _ _ _ bc]; rfl, by rw [cell_of_row _ _ _ _ _ _ bc]; rfl, by rw [cell_of_row _ _ _ _ _ _ bc]; rfl, by rw [cell_of_row _ _ _ _ _ _ bc]; rfl, by rw [cell_of_row _ _ _ _ _ _ bc]; rfl, fun j => ?_, fun i hi => ?_, fun j hj => ?_, ?_, ⟨#[], 0, bb2, Mp.nil 0⟩,
    by simp, by simp, by simp, hN, fun i _ => noughts_len, fun i x hx => by cases hx⟩
  · unfold World.frozen?
    rw [show (wb.alloc ob).heap[(⟨w.heap.size + 2, j, none⟩ : Addr).block]? = _ from bc]
    simp
  · intro j v hv
    have hj : j < 64 := by have := (List.getElem?_eq_some_iff.1 hv).1; rw [bcs_len] at this; simpa [fresh, noughts_len] using this
    have hi' : i < N := hi
    rw [cell_of_row _ _ _ _ _ _ ba2, made_at N _ (by omega), ← hv]
    have := bcs_at noughts j (by rw [noughts_len]; exact hj)
    show _ = (bcs noughts)[j]?
    rw [this]
    have e0 : noughts[j]'(by rw [noughts_len]; exact hj) = 0 := by unfold noughts; exact List.getElem_replicate _
    rw [e0]
    rfl
  · have hj' : j < N * 64 := hj
    rw [Nat.zero_add, cell_of_row _ _ _ _ _ _ ba2, made_at N j hj']
    refine ⟨rfl, ?_⟩
    unfold World.frozen?
    rw [show (wb.alloc ob).heap[(⟨w.heap.size, j, none⟩ : Addr).block]? = _ from ba2]
    simp
  · show w.heap.size < _
    have := hk2.size
    omega

/-- How many sectors New makes. -/
def newN (n : Int) : Nat := (min (max n 0) 4096).toNat
set_option maxRecDepth 100000 in
set_option maxHeartbeats 400000 in
theorem new_any (n : Int) (w : World) :
    Calls Tryz.prog 7 #[.int .i64 n] w fun e w' => ∃ p : Dp, e = .returned (.pointer (some ⟨p.d, 0, none⟩)) ∧ Dev w' p (fresh (newN n)) ∧ Kp none' w w' ∧ ∀ k, p.mem k → w.heap.size ≤ k := by
  have hN : newN n ≤ 4096 := by unfold newN; omega
  have hcl : (min (max n 0) 4096 : Int) = (newN n : Int) := by unfold newN; omega
  obtain ⟨i, hi, hz0, hz1, hz2⟩ := info_parts infoSecZ
  have hmk := run_make (P := Tryz.prog) w 61 79 i _ Tryz.underlying61 hi hz0 .i64 .i64 (newN n : Int) (newN n : Int) (by omega) (Int.le_refl _) (by rw [hz2]; omega) (by omega)
  rw [hz1] at hmk
  simp only [Int.toNat_natCast, Value.cells] at hmk
  have hF := fresh_dev w (newN n) hN
  have hmm := @run_makeMap Tryz.prog
  clear hi hz0 hz1 hz2 i
  obtain ⟨N, HN⟩ : ∃ N, Hid (newN n = N) := ⟨_, rfl⟩
  rw [HN.out] at hmk hF hN hcl ⊢
  have hk := ((Kp.alloc none' w (.cells (madeCells (bcs noughts).toArray (N * 64)) 79)).then (Kp.alloc none' _ (.map #[] 0))).then (Kp.alloc none' _ (.cells #[.slice (some ⟨w.heap.size, 0, none⟩) N N, .map (some (w.heap.size + 1)), .int .i64 0, .bool false, .int .i64 0] 64))
  go_enter Tryz.func7, Tryz.ntmps7
  go_upto_region 2 with fail
  have eN : (if 4096 < if n < 0 then 0 else n then 4096 else if n < 0 then 0 else n) = (N : Int) := by
    rw [← hcl]
    by_cases h1 : n < 0
    · simp only [h1, if_true]
      omega
    · simp only [h1, if_false]
      split <;> omega
  rw [eN]
  clear hcl eN
  generalize (if n < 0 then 0 else n) = n1
  go_wp2_with (refine wpList_make_at rfl (.tmp 6) (.tmp 6) 61 rfl _ _ rfl rfl hmk ?_)
  go_ret
  exact ⟨⟨w.heap.size + 2, w.heap.size, w.heap.size + 1⟩, rfl, hF, hk, fun k h => by rcases h with rfl | rfl | rfl <;> simp⟩

end Go.Proofs.YtgfijbbibafdfaaGreat
