/- Contracts, over the turned program: a pager's look (at a page, at an image). Conditions: those that each theorem states. -/
import Derived.Test.YtgfijbbibafdfaaGreatPLeaf
import Derived.Test.YtgfijbbibafdfaaGreatUJoinP
namespace Go.Proofs.YtgfijbbibafdfaaGreat
open Go.RowKit
set_option linter.unusedVariables false

theorem rdL_in (D : Dv) (k : Nat) (h : k < D.n) : rdL D (k : Int) = D.at k := by
  have : hasB D.n (k : Int) = true := by simp [hasB]; omega
  simp [rdL, this]
theorem secL_list (s : ByteArray) (j : Nat) : secL s j = (s.data.toList.drop (j * 64)).take 64 := by
  unfold secL cutAt
  rw [ext_list]
  congr 1
  omega
/-- What is read of four sectors. -/
def lkL (D : Dv) (f : Nat → Nat) (k : Nat) : List ByteArray := (List.range k).map fun j => mkA (D.at (f j))
theorem lkL_len (D : Dv) (f : Nat → Nat) (k : Nat) : (lkL D f k).length = k := by simp [lkL]
theorem lkL_succ (D : Dv) (f : Nat → Nat) (k : Nat) : lkL D f (k + 1) = lkL D f k ++ [mkA (D.at (f k))] := by simp [lkL, List.range_succ]
def lookS (D : Dv) (f : Nat → Nat) : ByteArray := joinS (lkL D f 4)
/-- Where they are a page's sectors, it is the page. -/
theorem look_page {D : Dv} {f : Nat → Nat} {x : ByteArray} (hx : x.size = 256) (h : ∀ j, j < 4 → D.at (f j) = secL x j) : lookS D f = x := by
  have e : lkL D f 4 = [mkA (secL x 0), mkA (secL x 1), mkA (secL x 2), mkA (secL x 3)] := by
    rw [← h 0 (by omega), ← h 1 (by omega), ← h 2 (by omega), ← h 3 (by omega)]
    rfl
  have hz : ∀ j, j < 4 → (mkA (secL x j)).size = 64 := fun j hj => by
    show (secL x j).toArray.size = 64
    rw [List.size_toArray, secL_len hx hj]
  have ho : okJ (lkL D f 4) = true := by
    unfold okJ
    rw [e]
    simp only [decide_eq_true_eq]
    refine ⟨rfl, fun s hs => ?_⟩
    simp only [List.mem_cons, List.not_mem_nil, or_false] at hs
    rcases hs with rfl | rfl | rfl | rfl
    · exact hz 0 (by omega)
    · exact hz 1 (by omega)
    · exact hz 2 (by omega)
    · exact hz 3 (by omega)
  have hl : x.data.toList.length = 256 := by rw [Array.length_toList]; exact hx
  have hc : catB (lkL D f 4) = x.data.toList := by
    rw [e]
    unfold catB mkA
    simp only [List.flatMap_cons, List.flatMap_nil, List.append_nil, secL_list]
    have step : ∀ k : Nat, (x.data.toList.drop (k * 64)).take 64 ++ x.data.toList.drop ((k + 1) * 64) = x.data.toList.drop (k * 64) := fun k => by
      have := List.take_append_drop 64 (x.data.toList.drop (k * 64))
      rw [List.drop_drop] at this
      rw [show (k + 1) * 64 = k * 64 + 64 by omega]
      exact this
    have s3 : (x.data.toList.drop (3 * 64)).take 64 = x.data.toList.drop (3 * 64) := List.take_of_length_le (by rw [List.length_drop]; omega)
    rw [s3, show (3 * 64) = (2 + 1) * 64 from rfl, step 2, show (2 * 64) = (1 + 1) * 64 from rfl, step 1, show (1 * 64) = (0 + 1) * 64 from rfl, step 0]
    simp
  unfold lookS joinS
  rw [if_pos ho, hc]
set_option maxRecDepth 100000 in
set_option maxHeartbeats 800000 in
theorem look_place (g k : Nat) (p : Dp) (D : Dv) (w : World) (hc0 : w.cell? ⟨g, 0, none⟩ = some (.pointer (some ⟨p.d, 0, none⟩))) (hD : Dev w p D) (hk : k ≤ 160) (hn : ∀ j, j < 4 → placeN k j < D.n) :
    Calls Tryz.prog 42 #[.pointer (some ⟨g, 0, none⟩), .func (.func 43) #[] #[], .int .i64 k] w fun e w' => e = .returned (.string (lookS D (placeN k))) ∧ Kp none' w w' := by
  have hgl : g < w.heap.size := lt_of_cell hc0
  obtain ⟨wa, hmk, hO, hka⟩ := make_strs w 4 (by omega)
  rw [show ((4 : Nat) : Int) = 4 from rfl] at hmk
  obtain ⟨B, HB⟩ : ∃ B, Hid (w.heap.size = B) := ⟨_, rfl⟩
  rw [HB.out] at hmk hO
  have hgB : g ≠ B := by have := HB.out; omega
  go_enter Tryz.func42, Tryz.ntmps42
  go_upto_region 2 with (at_make; refine wpList_make_at rfl (.const (.int .i64 4)) (.const (.int .i64 4)) 68 rfl _ _ rfl rfl hmk ?_)
  clear hmk
  go_wp2
  go_loopw [14] (fun t wr => ∃ j : Nat, j ≤ 4 ∧ t = .int .i64 j ∧ Ow Value.string 9 wr B (.slice (some ⟨B, 0, none⟩) 4 4) (lkL D (placeN k) j ++ List.replicate (4 - j) ByteArray.empty) ∧ Kp none' w wr) (fun t _ => 4 - (intOf t).toNat)
  case atStart => exact ⟨0, Nat.zero_le _, rfl, hO, hka⟩
  case round =>
    obtain ⟨j, hj, rfl, hO, hK⟩ := hrel
    by_cases hlt : j < 4
    · have hji : (j : Int) < 4 := by omega
      obtain ⟨m, hm⟩ : ∃ m, 4 - j = m + 1 := ⟨4 - j - 1, by omega⟩
      have Hm : Hid (4 - (j + 1) = m) := by show _ = _; omega
      rw [hm] at hO
      have hcr : wr.drew.cell? ⟨g, 0, none⟩ = some (.pointer (some ⟨p.d, 0, none⟩)) := hK.cell hc0 (fun h => h)
      have hDr := (hD.keptN hK).drew
      have HW : Hid (wrap64 (126 + 4 * (k : Int) + (j : Int)) = (placeN k j : Int)) := by show _ = _; unfold wrap64 placeN; omega
      have HR : Hid (rdL D (placeN k j : Int) = D.at (placeN k j)) := rdL_in D _ (hn j hlt)
      have HS : Hid (lkL D (placeN k) (j + 1) = lkL D (placeN k) j ++ [mkA (D.at (placeN k j))]) := lkL_succ _ _ _
      have HL : Hid ((lkL D (placeN k) j).length = j) := lkL_len _ _ _
      obtain ⟨X, HX⟩ : ∃ X, Hid ((⟨(D.at (placeN k j)).toArray⟩ : ByteArray) = X) := ⟨_, rfl⟩
      rw [show mkA (D.at (placeN k j)) = (⟨(D.at (placeN k j)).toArray⟩ : ByteArray) from rfl, HX.out] at HS
      obtain ⟨q, HQ⟩ : ∃ q, Hid (placeN k j = q) := ⟨_, rfl⟩
      rw [HQ.out] at HW HR HX
      have hjl : j < (lkL D (placeN k) j ++ List.replicate (m + 1) ByteArray.empty).length := by rw [List.length_append, HL.out, List.length_replicate]; omega
      have k1 : ∀ W : World, Kp none' wr W → ∃ v, W.cell? ⟨B, j, none⟩ = some (.string v) := fun W h => ⟨_, ((hO.keptN h).cellAt j hjl).1⟩
      have k2 : ∀ W : World, Kp none' wr W → W.frozen? ⟨B, j, none⟩ = false := fun W h => ((hO.keptN h).cellAt j hjl).2
      have dr : Kp none' wr wr.drew := Kp.drew _ _
      have kS : ∀ W : World, W.cell? ⟨g, 0, none⟩ = some (.pointer (some ⟨p.d, 0, none⟩)) → (W.setCell ⟨B, j, none⟩ (.string X)).cell? ⟨g, 0, none⟩ = some (.pointer (some ⟨p.d, 0, none⟩)) := fun W h => (Kp.setCell (S := only B) W B _ _ rfl).cell h hgB
      have HO := hide hO
      clear hO hD
      go_upto_region 5 with fail
      go_region_held_law (fun W => W.cell? ⟨g, 0, none⟩ = some (.pointer (some ⟨p.d, 0, none⟩))) (first | assumption | exact kS _ (by assumption)) (first
        | (go_at_call 43; refine (place_any _ _ _).mono ?_; rintro e w' ⟨rfl, rfl⟩; rw [HW.out])
        | (go_at_call 45; refine (read_any p D _ _ hDr).mono ?_; rintro e w2 ⟨rfl, hk2⟩; rw [HR.out, HX.out]; have S2 : Kp none' wr w2 := dr.then hk2; have T0 : w2.cell? ⟨g, 0, none⟩ = some (.pointer (some ⟨p.d, 0, none⟩)) := hk2.cell hcr (fun h => h); obtain ⟨v1, T1⟩ := k1 _ S2; have T2 := k2 _ S2)
        | fail)
      have hO2 := HO.out.keptN S2
      have hst := hO2.stored j X
      have e1 := set_nextS (lkL D (placeN k) j) m X
      rw [HL.out] at e1
      rw [e1, ← HS.out] at hst
      have HST := hide hst
      clear hst hO2 e1 k1 k2 kS T0 T1 T2
      go_wp2
      go_roundw
      case rel => exact ⟨j + 1, by omega, by go_num, by rw [Hm.out]; exact HST.out.1, (hK.then S2).trans (Kp.ofGrown HST.out.2 (S := only B) (fun k he _ => by cases he; rfl)) (fun _ _ h => h) (fun k hk he => absurd hk (by have := HB.out; unfold only at he; omega))⟩
      case measure => simp [intOf]; omega
    · obtain rfl : j = 4 := by omega
      have e4 : lkL D (placeN k) 4 ++ List.replicate (4 - 4) ByteArray.empty = lkL D (placeN k) 4 := by simp
      rw [e4] at hO
      have hSl := hO.sl
      have HJ : Hid (joinS (lkL D (placeN k) 4) = lookS D (placeN k)) := rfl
      go_wp2_with (go_at_call 60; refine (join_any _ _ _ _ hSl (Nat.le_refl _)).mono ?_; rintro e w2 ⟨rfl, hk2⟩; rw [HJ.out])
      go_ret
      exact ⟨rfl, hK.then hk2⟩
set_option maxRecDepth 100000 in
set_option maxHeartbeats 800000 in
theorem look_image (g k : Nat) (p : Dp) (D : Dv) (w : World) (hc0 : w.cell? ⟨g, 0, none⟩ = some (.pointer (some ⟨p.d, 0, none⟩))) (hD : Dev w p D) (hk : k ≤ 160) (hn : ∀ j, j < 4 → imageN k j < D.n) :
    Calls Tryz.prog 42 #[.pointer (some ⟨g, 0, none⟩), .func (.func 48) #[] #[], .int .i64 k] w fun e w' => e = .returned (.string (lookS D (imageN k))) ∧ Kp none' w w' := by
  have hgl : g < w.heap.size := lt_of_cell hc0
  obtain ⟨wa, hmk, hO, hka⟩ := make_strs w 4 (by omega)
  rw [show ((4 : Nat) : Int) = 4 from rfl] at hmk
  obtain ⟨B, HB⟩ : ∃ B, Hid (w.heap.size = B) := ⟨_, rfl⟩
  rw [HB.out] at hmk hO
  have hgB : g ≠ B := by have := HB.out; omega
  go_enter Tryz.func42, Tryz.ntmps42
  go_upto_region 2 with (at_make; refine wpList_make_at rfl (.const (.int .i64 4)) (.const (.int .i64 4)) 68 rfl _ _ rfl rfl hmk ?_)
  clear hmk
  go_wp2
  go_loopw [14] (fun t wr => ∃ j : Nat, j ≤ 4 ∧ t = .int .i64 j ∧ Ow Value.string 9 wr B (.slice (some ⟨B, 0, none⟩) 4 4) (lkL D (imageN k) j ++ List.replicate (4 - j) ByteArray.empty) ∧ Kp none' w wr) (fun t _ => 4 - (intOf t).toNat)
  case atStart => exact ⟨0, Nat.zero_le _, rfl, hO, hka⟩
  case round =>
    obtain ⟨j, hj, rfl, hO, hK⟩ := hrel
    by_cases hlt : j < 4
    · have hji : (j : Int) < 4 := by omega
      obtain ⟨m, hm⟩ : ∃ m, 4 - j = m + 1 := ⟨4 - j - 1, by omega⟩
      have Hm : Hid (4 - (j + 1) = m) := by show _ = _; omega
      rw [hm] at hO
      have hcr : wr.drew.cell? ⟨g, 0, none⟩ = some (.pointer (some ⟨p.d, 0, none⟩)) := hK.cell hc0 (fun h => h)
      have hDr := (hD.keptN hK).drew
      have HW : Hid (wrap64 (2 + 4 * (k : Int) + (j : Int)) = (imageN k j : Int)) := by show _ = _; unfold wrap64 imageN; omega
      have HR : Hid (rdL D (imageN k j : Int) = D.at (imageN k j)) := rdL_in D _ (hn j hlt)
      have HS : Hid (lkL D (imageN k) (j + 1) = lkL D (imageN k) j ++ [mkA (D.at (imageN k j))]) := lkL_succ _ _ _
      have HL : Hid ((lkL D (imageN k) j).length = j) := lkL_len _ _ _
      obtain ⟨X, HX⟩ : ∃ X, Hid ((⟨(D.at (imageN k j)).toArray⟩ : ByteArray) = X) := ⟨_, rfl⟩
      rw [show mkA (D.at (imageN k j)) = (⟨(D.at (imageN k j)).toArray⟩ : ByteArray) from rfl, HX.out] at HS
      obtain ⟨q, HQ⟩ : ∃ q, Hid (imageN k j = q) := ⟨_, rfl⟩
      rw [HQ.out] at HW HR HX
      have hjl : j < (lkL D (imageN k) j ++ List.replicate (m + 1) ByteArray.empty).length := by rw [List.length_append, HL.out, List.length_replicate]; omega
      have k1 : ∀ W : World, Kp none' wr W → ∃ v, W.cell? ⟨B, j, none⟩ = some (.string v) := fun W h => ⟨_, ((hO.keptN h).cellAt j hjl).1⟩
      have k2 : ∀ W : World, Kp none' wr W → W.frozen? ⟨B, j, none⟩ = false := fun W h => ((hO.keptN h).cellAt j hjl).2
      have dr : Kp none' wr wr.drew := Kp.drew _ _
      have kS : ∀ W : World, W.cell? ⟨g, 0, none⟩ = some (.pointer (some ⟨p.d, 0, none⟩)) → (W.setCell ⟨B, j, none⟩ (.string X)).cell? ⟨g, 0, none⟩ = some (.pointer (some ⟨p.d, 0, none⟩)) := fun W h => (Kp.setCell (S := only B) W B _ _ rfl).cell h hgB
      have HO := hide hO
      clear hO hD
      go_upto_region 5 with fail
      go_region_held_law (fun W => W.cell? ⟨g, 0, none⟩ = some (.pointer (some ⟨p.d, 0, none⟩))) (first | assumption | exact kS _ (by assumption)) (first
        | (go_at_call 48; refine (image_any _ _ _).mono ?_; rintro e w' ⟨rfl, rfl⟩; rw [HW.out])
        | (go_at_call 45; refine (read_any p D _ _ hDr).mono ?_; rintro e w2 ⟨rfl, hk2⟩; rw [HR.out, HX.out]; have S2 : Kp none' wr w2 := dr.then hk2; have T0 : w2.cell? ⟨g, 0, none⟩ = some (.pointer (some ⟨p.d, 0, none⟩)) := hk2.cell hcr (fun h => h); obtain ⟨v1, T1⟩ := k1 _ S2; have T2 := k2 _ S2)
        | fail)
      have hO2 := HO.out.keptN S2
      have hst := hO2.stored j X
      have e1 := set_nextS (lkL D (imageN k) j) m X
      rw [HL.out] at e1
      rw [e1, ← HS.out] at hst
      have HST := hide hst
      clear hst hO2 e1 k1 k2 kS T0 T1 T2
      go_wp2
      go_roundw
      case rel => exact ⟨j + 1, by omega, by go_num, by rw [Hm.out]; exact HST.out.1, (hK.then S2).trans (Kp.ofGrown HST.out.2 (S := only B) (fun k he _ => by cases he; rfl)) (fun _ _ h => h) (fun k hk he => absurd hk (by have := HB.out; unfold only at he; omega))⟩
      case measure => simp [intOf]; omega
    · obtain rfl : j = 4 := by omega
      have e4 : lkL D (imageN k) 4 ++ List.replicate (4 - 4) ByteArray.empty = lkL D (imageN k) 4 := by simp
      rw [e4] at hO
      have hSl := hO.sl
      have HJ : Hid (joinS (lkL D (imageN k) 4) = lookS D (imageN k)) := rfl
      go_wp2_with (go_at_call 60; refine (join_any _ _ _ _ hSl (Nat.le_refl _)).mono ?_; rintro e w2 ⟨rfl, hk2⟩; rw [HJ.out])
      go_ret
      exact ⟨rfl, hK.then hk2⟩

end Go.Proofs.YtgfijbbibafdfaaGreat
