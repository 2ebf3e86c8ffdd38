/- Contracts, over the turned program: a device that isn't there, a sector's bytes of a text, a step, and the first look of every statement. Conditions: those that each theorem states. -/
import Derived.Test.YtlalnaaeljikgaaDCrash
namespace Go.Proofs.Ytlalnaaeljikgaa
open Go.RowKit
open Go.ChangeMaps (setBlock)
set_option linter.unusedVariables false

set_option maxHeartbeats 400000 in
theorem write_nil (i : Int) (s : ByteArray) (w : World) : Calls Try.prog 28 #[.pointer none, .int .i64 i, .string s] w fun e w' => e = .returned (.int .i64 1) ∧ w' = w := by
  go_enter Try.func28, Try.ntmps28
  go_wp2_with (go_at_call 37; refine (begin_nil _).mono ?_; rintro e w' ⟨rfl, rfl⟩)
  go_ret
  exact ⟨rfl, rfl⟩
set_option maxHeartbeats 400000 in
theorem sync_nil (w : World) : Calls Try.prog 25 #[.pointer none] w fun e w' => e = .returned (.int .i64 1) ∧ w' = w := by
  go_enter Try.func25, Try.ntmps25
  go_wp2_with (go_at_call 37; refine (begin_nil _).mono ?_; rintro e w' ⟨rfl, rfl⟩)
  go_ret
  exact ⟨rfl, rfl⟩

/-- Bytes of a text laid over noughts, as far as j. -/
def wholeTo (l : List UInt8) (j : Nat) : List UInt8 := (l.take j ++ noughts.drop (l.take j).length).take 64
theorem Ow.stored {α : Type} {f : α → Value} {e : TypeId} {w : World} {base g n cap : Nat} {l : List α} (h : Ow f e w base (.slice (some ⟨g, 0, none⟩) n cap) l) (j : Nat) (c : α) :
    Ow f e (w.setCell ⟨g, j, none⟩ (f c)) base (.slice (some ⟨g, 0, none⟩) n cap) (l.set j c) ∧ w.grownBy (w.setCell ⟨g, j, none⟩ (f c)) (some g) := by
  have hn : n = l.length := by
    rcases h.2 with ⟨h1, _⟩ | ⟨g', cap', cur, h1, _⟩
    · cases h1
    · cases h1; rfl
  subst hn
  have h2 := World.ownsRow.stored (g := g) (cap := cap) h j (f c)
  refine ⟨?_, h2.2⟩
  have e1 : (l.set j c).map f = (l.map f).set j (f c) := by simp [List.map_set]
  unfold Ow
  rw [e1, List.length_set]
  exact h2.1
theorem whole_short (l : List UInt8) (h : l.length ≤ 64) : whole l = l ++ noughts.drop l.length := by
  unfold whole
  rw [List.take_append, List.take_of_length_le h]
  congr 1
  unfold noughts
  rw [List.take_replicate, List.drop_replicate]
  congr 1
  omega
theorem whole_step (l : List UInt8) (j : Nat) (h : j < l.length) (hj : j < 64) : (whole (l.take j)).set j l[j] = whole (l.take (j + 1)) := by
  have h1 : (l.take j).length = j := by rw [List.length_take]; omega
  have h2 : (l.take (j + 1)).length = j + 1 := by rw [List.length_take]; omega
  rw [whole_short _ (by omega), whole_short _ (by omega), h1, h2, List.set_append_right _ _ (by omega), h1, Nat.sub_self]
  have e : noughts.drop j = 0 :: noughts.drop (j + 1) := by
    rw [List.drop_eq_getElem_cons (by rw [noughts_len]; exact hj)]
    congr 1
    unfold noughts
    exact List.getElem_replicate _
  rw [e, List.set_cons_zero, List.take_succ_eq_append_getElem h, List.append_assoc]
  rfl
theorem whole_take (l : List UInt8) : whole (l.take 64) = whole l := by
  unfold whole
  rw [List.take_append, List.take_append, List.take_take, Nat.min_self, List.length_take]
  congr 2
  omega

set_option maxRecDepth 100000 in
set_option maxHeartbeats 400000 in
theorem whole_any (s : ByteArray) (w : World) (hs : s.size ≤ maxLen) :
    Calls Try.prog 22 #[.string s] w fun e w' => e = .returned (.string ⟨(whole s.data.toList).toArray⟩) ∧ Kp none' w w' := by
  unfold maxLen at hs
  have hl : s.data.toList.length = s.size := by rw [Array.length_toList]; rfl
  obtain ⟨i0, hi, hz0, hz1, hz2⟩ := info_parts infoU8
  obtain ⟨wa, hmk, hOa, hga⟩ := run_make_full (P := Try.prog) w w.heap.size 68 5 i0 _ 1 Try.underlying68 hi hz0 hz1 .i64 .i64 64 (by rw [hz2]; omega) (by unfold maxLen; omega) (Nat.le_refl _)
  have hO : Own 5 wa w.heap.size (.slice (some ⟨w.heap.size, 0, none⟩) 64 64) (whole []) := by
    have e : (madeCells (Value.int .u8 0).cells (64 * 1)).toList = bcs (whole []) := by kernel_rfl
    have e2 : (whole []).length = 64 := whole_len []
    unfold Own
    rw [e2, ← e]
    exact hOa
  have hka : Kp none' w wa := Kp.ofN hga _
  clear hOa hga hi hz0 hz1 hz2 i0
  obtain ⟨g, HG⟩ : ∃ g, Hid (w.heap.size = g) := ⟨_, rfl⟩
  rw [HG.out] at hmk hO
  go_enter Try.func22, Try.ntmps22
  go_wp2_with (refine wpList_make_at rfl (.const (.int .i64 64)) (.const (.int .i64 64)) 68 rfl _ _ rfl rfl hmk ?_)
  clear hmk
  go_loopw [4] (fun t wr => ∃ k : Nat, k ≤ s.size ∧ k ≤ 64 ∧ t = .int .i64 k ∧ Own 5 wr g (.slice (some ⟨g, 0, none⟩) 64 64) (whole (s.data.toList.take k)) ∧ Kp none' w wr) (fun t _ => 64 - (intOf t).toNat)
  case atStart => exact ⟨0, Nat.zero_le _, Nat.zero_le _, rfl, hO, hka⟩
  case round =>
    obtain ⟨k, hk1, hk2, rfl, hOr, hKr⟩ := hrel
    clear hO hka
    by_cases hlt : k < s.size
    · by_cases hlt2 : k < 64
      · have hcl := hOr.cellAt k (by rw [whole_len]; exact hlt2)
        have hc1 := hcl.1
        have hc2 := hcl.2
        have hki : (k : Int) < (s.size : Int) := by omega
        have hst := hOr.stored k s[k]
        rw [show s[k] = s.data.toList[k]'(by rw [hl]; exact hlt) from rfl, whole_step _ k (by rw [hl]; exact hlt) hlt2] at hst
        clear hcl
        go_wp2
        go_roundw
        case rel => exact ⟨k + 1, by omega, by omega, by go_num, hst.1, hKr.trans (Kp.ofGrown hst.2 (S := only g) (fun _ h _ => by cases h; rfl)) (fun _ _ h => h) (fun j hj h => absurd hj (by have := HG.out; unfold only at h; omega))⟩
        case measure => simp [intOf]; omega
      · obtain rfl : k = 64 := by omega
        have hcv := run_convert_own (P := Try.prog) wr 68 9 5 Try.underlying68 Try.underlying5 Try.underlying9 hOr
        rw [whole_take] at hcv
        go_wp2
        go_ret
        exact ⟨rfl, hKr⟩
    · obtain rfl : k = s.size := by omega
      have hcv := run_convert_own (P := Try.prog) wr 68 9 5 Try.underlying68 Try.underlying5 Try.underlying9 hOr
      rw [List.take_of_length_le (by omega)] at hcv
      go_wp2
      go_ret
      exact ⟨rfl, hKr⟩

/-- The device of the first look, step by step. -/
def lvA : ByteArray := ⟨#[97]⟩
def lvB : ByteArray := ⟨#[98]⟩
def lv1 : Dv := (fresh 2).write 0 lvA
def lv2 : Dv := lv1.sync
def lv3 : Dv := lv2.write 0 lvB
def lv4 : Dv := lv3.crash [] (-1) 0
theorem lv_e1 : wrE (fresh 2) 0 lvA = 0 := by decide
theorem lv_e2 : syE lv1 = 0 := by decide
theorem lv_e3 : wrE lv2 0 lvB = 0 := by decide
theorem lv_r3 : rdL lv3 0 = whole lvB.data.toList := by kernel_rfl
theorem lv_r4 : rdL lv4 0 = whole lvA.data.toList := by kernel_rfl
theorem lv_n4 : lv4.n = 2 := by kernel_rfl
theorem lv_c4 : lv4.c = 3 := by kernel_rfl
theorem lv_c : (fresh 2).c = 0 ∧ lv1.c = 1 ∧ lv2.c = 2 ∧ lv3.c = 3 := by decide

set_option maxRecDepth 100000 in
set_option maxHeartbeats 800000 in
theorem dlives_any (w : World) : Calls Try.prog 9 #[] w fun e w' => e = .returned (.bool true) ∧ Kp none' w w' := by
  obtain ⟨X, HX⟩ : ∃ X : ByteArray, Hid (⟨(whole lvB.data.toList).toArray⟩ = X) := ⟨_, rfl⟩
  obtain ⟨Y, HY⟩ : ∃ Y : ByteArray, Hid (⟨(whole lvA.data.toList).toArray⟩ = Y) := ⟨_, rfl⟩
  obtain ⟨c0, c1, c2, c3⟩ := lv_c
  have HA : Hid (lvA = ⟨#[97]⟩) := rfl
  have HB : Hid (lvB = ⟨#[98]⟩) := rfl
  have Hc : Hid ((fresh 2).c = 0 ∧ lv1.c = 1 ∧ lv2.c = 2 ∧ lv3.c = 3) := lv_c
  clear c0 c1 c2 c3
  go_enter Try.func9, Try.ntmps9
  go_upto_region 2 with (go_at_call 11; refine (new_any _ _).mono ?_; rintro e w1 ⟨p, rfl, hD1, hk1, hp1⟩)
  rw [show newN 2 = 2 from rfl] at hD1
  go_upto_region 3 with (first
    | (go_at_call_has 28 (Value.string ⟨#[97]⟩); refine (write_any p (fresh 2) 0 lvA _ hD1 (by rw [Hc.out.1]; omega) (by rw [Hc.out.1]; omega) (by show 1 ≤ maxLen; unfold maxLen; omega)).mono ?_; rintro e w2 ⟨rfl, hD2, hk2⟩; rw [lv_e1]; have hE2 : Dev w2 p lv1 := hD2; clear hD2)
    | (go_at_call 25; refine (sync_any p lv1 _ hE2 (by rw [Hc.out.2.1]; omega) (by rw [Hc.out.2.1]; omega)).mono ?_; rintro e w3 ⟨rfl, hD3, hk3⟩; rw [lv_e2]; have hE3 : Dev w3 p lv2 := hD3; clear hD3)
    | (go_at_call_has 28 (Value.string ⟨#[98]⟩); refine (write_any p lv2 0 lvB _ hE3 (by rw [Hc.out.2.2.1]; omega) (by rw [Hc.out.2.2.1]; omega) (by show 1 ≤ maxLen; unfold maxLen; omega)).mono ?_; rintro e w4 ⟨rfl, hD4, hk4⟩; rw [lv_e3]; have hE4 : Dev w4 p lv3 := hD4; clear hD4)
    | (go_at_call 19; refine (read_any p lv3 0 _ hE4).mono ?_; rintro e w5 ⟨rfl, hk5⟩; rw [lv_r3, HX.out])
    | (go_at_call 22; refine (whole_any lvB _ (by show 1 ≤ maxLen; unfold maxLen; omega)).mono ?_; rintro e w6 ⟨rfl, hk6⟩; rw [HX.out])
    | fail)
  have hE6 := (hE4.keptN hk5).keptN hk6
  have HK6 : Hid (Kp p.mem w1 w6) := (((hk2.then hk3).then hk4).thenN hk5).thenN hk6
  clear hk2 hk3 hk4 hk5 hk6 hE4 hE2 hE3 hD1
  go_upto_region 5 with (first
    | (go_at_call 24; refine (crash_any p lv3 _ [] (-1) 0 0 _ hE6 (by rw [Hc.out.2.2.2]; omega) (by rw [Hc.out.2.2.2]; omega) (Sl.nil _ _ _) (fun _ _ => Nat.zero_le _)).mono ?_; rintro e w7 ⟨rfl, hD7, hk7⟩; have hE7 : Dev w7 p lv4 := hD7; clear hD7)
    | fail)
  go_wp2_with (first
    | (go_at_call 19; refine (read_any p lv4 0 _ hE7).mono ?_; rintro e w8 ⟨rfl, hk8⟩; rw [lv_r4, HY.out])
    | (go_at_call 22; refine (whole_any lvA _ (by show 1 ≤ maxLen; unfold maxLen; omega)).mono ?_; rintro e w9 ⟨rfl, hk9⟩; rw [HY.out]; have hE9 := (hE7.keptN hk8).keptN hk9)
    | (go_at_call 21; refine (size_any p lv4 _ hE9).mono ?_; rintro e w' ⟨rfl, rfl⟩; rw [lv_n4])
    | (go_at_call 15; refine (calls_any p lv4 _ hE9).mono ?_; rintro e w' ⟨rfl, rfl⟩; rw [lv_c4])
    | fail)
  go_ret
  exact ⟨rfl, hk1.trans (((HK6.out.then hk7).thenN hk8).thenN hk9) (fun _ _ h => h) (fun k hk h => absurd hk (by have := hp1 k h; omega))⟩

end Go.Proofs.Ytlalnaaeljikgaa
