/- Contracts, over the turned program: a device's Read. Conditions: those that each theorem states. -/
import Derived.Test.YtgfijbbibafdfaaGreatDWrite
namespace Go.Proofs.YtgfijbbibafdfaaGreat
open Go.RowKit
open Go.ChangeMaps (setBlock)
set_option linter.unusedVariables false

/-- What a sector reads. -/
def Dv.at (D : Dv) (k : Nat) : List UInt8 := (D.u k).getD (D.s k)
def rdL (D : Dv) (i : Int) : List UInt8 := if hasB D.n i then D.at i.toNat else []
/-- A block of its own that holds a sector. -/
theorem sec_there (w : World) (x : List UInt8) : (w.alloc (.cells (bcs x).toArray 79)).there w.heap.size 0 x.length := fun j hj => by
  rw [Nat.zero_add, cell_of_row _ _ _ _ _ (0, 0) (heap_alloc_new w _)]
  refine ⟨by simp [bcs, hj], ?_⟩
  unfold World.frozen?
  rw [show (w.alloc (.cells (bcs x).toArray 79)).heap[(⟨w.heap.size, j, none⟩ : Addr).block]? = _ from heap_alloc_new w _]
  simp
theorem run_conv_sec {w : World} {g : Nat} {x : List UInt8} (h : w.rangeAt g 0 (bcs x)) (hx : x.length = 64) : (convert 39 9 (.slice (some ⟨g, 0, none⟩) 64 64)).run Tryz.prog w = .ok (.string ⟨x.toArray⟩) w := by
  have := run_convert_bytes_back (P := Tryz.prog) w 39 9 5 ⟨g, 0, none⟩ 64 x Tryz.underlying39 Tryz.underlying5 Tryz.underlying9 (fun j hj => by
    have e : (⟨g, 0, none⟩ : Addr).add j = ⟨g, 0 + j, none⟩ := by unfold Addr.add; split <;> simp_all
    rw [e]
    exact h j _ (bcs_at x j hj))
  rw [hx] at this
  exact this

set_option maxRecDepth 100000 in
set_option maxHeartbeats 400000 in
theorem read_nil (i : Int) (w : World) : Calls Tryz.prog 45 #[.pointer none, .int .i64 i] w fun e w' => e = .returned (.string ⟨#[]⟩) ∧ w' = w := by
  go_enter Tryz.func45, Tryz.ntmps45
  go_wp2_with (go_at_call 54; refine (has_nil _ _).mono ?_; rintro e w' ⟨rfl, rfl⟩)
  go_ret
  exact ⟨rfl, rfl⟩

set_option maxRecDepth 100000 in
set_option maxHeartbeats 400000 in
theorem read_any (p : Dp) (D : Dv) (i : Int) (w : World) (hD : Dev w p D) :
    Calls Tryz.prog 45 #[.pointer (some ⟨p.d, 0, none⟩), .int .i64 i] w fun e w' => e = .returned (.string ⟨(rdL D i).toArray⟩) ∧ Kp none' w w' := by
  by_cases hh : hasB D.n i = true
  · obtain ⟨k, rfl⟩ : ∃ k : Nat, i = k := ⟨i.toNat, by simp [hasB] at hh; omega⟩
    have hk : k < D.n := by simp [hasB] at hh; omega
    have h4 := hD.n4
    have hE : rdL D k = D.at k := by simp [rdL, hh]
    rw [hE]
    obtain ⟨es, cl, hm, hM⟩ := hD.mp
    have hlk := run_look hm hM k true
    simp only [if_true] at hlk
    have h0 := hD.c0
    have h1 := hD.c1
    have hu : Tryz.prog.underlying 79 = _ := Tryz.underlying79
    cases hx : D.u k with
    | some x =>
      have hxl := (hD.l2 k x hx).2
      have hA : D.at k = x := by simp [Dv.at, hx]
      rw [hA]
      have e1 : lookV D.u k = x := by simp [lookV, hx]
      rw [e1, hx] at hlk
      simp only [Option.isSome_some] at hlk
      clear hm hM hE hA e1
      go_enter Tryz.func45, Tryz.ntmps45
      go_upto_region 3 with (go_at_call 54; refine (has_any _ _ _ _ hD).mono ?_; rintro e wb ⟨rfl, rfl⟩; rw [hh])
      have ht := sec_there wb noughts
      have hI : (Tryz.prog.info? 79).map (·.size) = some (bcs x).toArray.size := by rw [infoSec, List.size_toArray, bcs_len, hxl]
      have h1c : ((bcs x).toArray).all (·.oneCell') = true := all_oneCell_toArray (bcs_one x)
      rw [noughts_len, ← hxl, ← bcs_len x, ← List.size_toArray] at ht
      have hk2 := (Kp.alloc none' wb (.cells (bcs noughts).toArray 79))
      have hl2 : ((wb.alloc (.cells (bcs noughts).toArray 79)).setCells wb.heap.size 0 (bcs x)).rangeAt wb.heap.size 0 (bcs x) := World.rangeAt_setCells_same _ _ _ _ (by rw [← List.size_toArray]; exact ht)
      have hcv := run_conv_sec hl2 hxl
      have hk3 := hk2.trans (Kp.setCells (S := only wb.heap.size) wb.heap.size rfl (bcs x) 0 _) (S'' := none') (fun _ _ h => h) (fun k hk h => absurd hk (by unfold only at h; omega))
      obtain ⟨w2, H2⟩ : ∃ w2, Hid (wb.alloc (.cells (bcs noughts).toArray 79) = w2) := ⟨_, rfl⟩
      rw [H2.out] at ht hl2 hcv hk3
      go_upto_region 4 with (first
        | (refine wpList_alloc_sec rfl rfl ?_; rw [H2.out]; generalize wb.heap.size = g at *)
        | (refine wpList_store_mid rfl 79 (.tmp 5) (.tmp 18) rfl _ 0 (bcs x).toArray rfl rfl ht hI h1c ?_; rw [List.toList_toArray]))
      generalize w2.setCells g 0 (bcs x) = w3 at *
      clear hl2 ht hlk h0 h1
      go_wp2
      go_ret
      exact ⟨rfl, hk3⟩
    | none =>
      have hA : D.at k = D.s k := by simp [Dv.at, hx]
      rw [hA]
      have e1 : lookV D.u k = noughts := by simp [lookV, hx]
      rw [e1, hx] at hlk
      simp only [Option.isSome_none] at hlk
      have hxl := hD.l1 k hk
      have hrs := hD.rs k hk
      have hls := hD.ls
      have hld := hD.ld
      obtain ⟨x, Hx⟩ : ∃ x, Hid (D.s k = x) := ⟨_, rfl⟩
      rw [Hx.out] at hxl hrs ⊢
      clear hm hM hE hA e1
      go_enter Tryz.func45, Tryz.ntmps45
      go_upto_region 3 with (go_at_call 54; refine (has_any _ _ _ _ hD).mono ?_; rintro e wb ⟨rfl, rfl⟩; rw [hh])
      have ht := sec_there wb noughts
      have hI : (Tryz.prog.info? 79).map (·.size) = some (bcs noughts).toArray.size := by rw [infoSec, List.size_toArray, bcs_len, noughts_len]
      have h1c : ((bcs noughts).toArray).all (·.oneCell') = true := all_oneCell_toArray (bcs_one noughts)
      have hI2 : (Tryz.prog.info? 79).map (·.size) = some (bcs x).toArray.size := by rw [infoSec, List.size_toArray, bcs_len, hxl]
      have hI3 : (Tryz.prog.info? 79).map (·.size) = some (bcs x).length := by rw [infoSec, bcs_len, hxl]
      have h1c2 : ((bcs x).toArray).all (·.oneCell') = true := all_oneCell_toArray (bcs_one x)
      have hg1 : p.s ≠ wb.heap.size := Nat.ne_of_lt hls
      have hg2 : p.d ≠ wb.heap.size := Nat.ne_of_lt hld
      rw [← bcs_len noughts, ← List.size_toArray] at ht
      have hk2 := (Kp.alloc none' wb (.cells (bcs noughts).toArray 79))
      have hk3 := hk2.trans (Kp.setCells (S := only wb.heap.size) wb.heap.size rfl (bcs noughts) 0 _) (S'' := none') (fun _ _ h => h) (fun k hk h => absurd hk (by unfold only at h; omega))
      have ht3 := World.there_setCells ht wb.heap.size 0 (bcs noughts)
      have hrs3 := hk3.rangeAt hrs (fun h => h)
      have h03 := hk3.cell h0 (fun h => h)
      have eSz : (bcs noughts).toArray.size = (bcs x).toArray.size := by rw [List.size_toArray, List.size_toArray, bcs_len, bcs_len, noughts_len, hxl]
      rw [eSz] at ht3
      obtain ⟨w2, H2⟩ : ∃ w2, Hid (wb.alloc (.cells (bcs noughts).toArray 79) = w2) := ⟨_, rfl⟩
      rw [H2.out] at ht hk3 ht3 hrs3 h03
      obtain ⟨w3, H3⟩ : ∃ w3, Hid (w2.setCells wb.heap.size 0 (bcs noughts) = w3) := ⟨_, rfl⟩
      rw [H3.out] at hk3 ht3 hrs3 h03
      have hl4 : (w3.setCells wb.heap.size 0 (bcs x)).rangeAt wb.heap.size 0 (bcs x) := World.rangeAt_setCells_same _ _ _ _ (by rw [← List.size_toArray]; exact ht3)
      have hcv := run_conv_sec hl4 hxl
      have hk4 := hk3.trans (Kp.setCells (S := only wb.heap.size) wb.heap.size rfl (bcs x) 0 _) (S'' := none') (fun _ _ h => h) (fun k hk h => absurd hk (by unfold only at h; omega))
      go_upto_region 4 with (first
        | (refine wpList_alloc_sec rfl rfl ?_; rw [H2.out]; generalize wb.heap.size = g at *)
        | (refine wpList_store_mid rfl 79 (.tmp 5) (.tmp 18) rfl _ 0 (bcs noughts).toArray rfl rfl ht hI h1c ?_; rw [List.toList_toArray, H3.out]))
      clear ht hlk h0 h1 hrs
      go_upto_region 6 with (first
        | (refine wpList_load_mid rfl 79 (.tmp 27) rfl p.s (k * 64) rfl (bcs x) _ hrs3 hu rfl hI3 ?_)
        | (refine wpList_store_mid rfl 79 (.tmp 5) (.tmp 28) rfl _ 0 (bcs x).toArray rfl rfl ht3 hI2 h1c2 ?_; rw [List.toList_toArray]))
      generalize w3.setCells g 0 (bcs x) = w4 at *
      clear hl4 ht3 hrs3 h03
      go_wp2
      go_ret
      exact ⟨rfl, hk4⟩
  · have hh' : hasB D.n i = false := by simpa using hh
    have hE : rdL D i = [] := by simp [rdL, hh']
    rw [hE]
    go_enter Tryz.func45, Tryz.ntmps45
    go_wp2_with (go_at_call 54; refine (has_any _ _ _ _ hD).mono ?_; rintro e w' ⟨rfl, rfl⟩; rw [hh'])
    go_ret
    exact ⟨rfl, Kp.refl _ _⟩

end Go.Proofs.YtgfijbbibafdfaaGreat
