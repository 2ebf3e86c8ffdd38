/- Contracts, over the turned program: a pager's images, refusal, settleMark, writeJournal. Conditions: those that each theorem states. -/
import Derived.Test.YtgfijbbibafdfaaGreatPBack
import Derived.Test.YtgfijbbibafdfaaGreatDUnsure
namespace Go.Proofs.YtgfijbbibafdfaaGreat
open Go.RowKit
set_option linter.unusedVariables false

/-- What the pages of changes are, as they are read. -/
def oldD (D : Dv) (l : List Chg) : List Chg := l.map fun c => ⟨c.page, lookS D (placeN c.page.toNat)⟩
theorem oldD_len (D : Dv) (l : List Chg) : (oldD D l).length = l.length := by simp [oldD]
theorem oldD_take (D : Dv) (l : List Chg) (k : Nat) (h : k < l.length) : (oldD D l).take (k + 1) = (oldD D l).take k ++ [⟨l[k].page, lookS D (placeN l[k].page.toNat)⟩] := by
  rw [List.take_succ_eq_append_getElem (by rw [oldD_len]; exact h)]
  simp [oldD]
set_option maxRecDepth 100000 in
set_option maxHeartbeats 1600000 in
theorem images_any (g n : Nat) (p : Dp) (D : Dv) (v : Value) (l : List Chg) (w : World) (hc0 : w.cell? ⟨g, 0, none⟩ = some (.pointer (some ⟨p.d, 0, none⟩))) (hD : Dev w p D) (hn : 126 + 4 * n ≤ D.n) (hn2 : n ≤ 160)
    (hS : Chs (fun k => ¬ p.mem k) w v l) (hp : ∀ c ∈ l, 0 ≤ c.page ∧ c.page < n) (hl : l.length ≤ 31) :
    Calls Tryz.prog 27 #[.pointer (some ⟨g, 0, none⟩), v] w fun e w' => ∃ u, e = .returned u ∧ OwC 56 w' w.heap.size u (oldD D l) ∧ Kp none' w w' := by
  obtain ⟨a, c, rfl, _, _, ha'⟩ := hS
  have ha := hide ha'
  clear ha'
  have hgl : g < w.heap.size := lt_of_cell hc0
  obtain ⟨wa, hmk, hOC, hka⟩ := make_chgs w l.length (by omega)
  obtain ⟨B, HB⟩ : ∃ B, Hid (w.heap.size = B) := ⟨_, rfl⟩
  rw [HB.out] at hmk hOC
  go_enter Tryz.func27, Tryz.ntmps27
  go_upto_region 2 with (at_make; refine wpList_make_at rfl (.tmp 9) (.tmp 9) 35 rfl _ _ rfl rfl hmk ?_)
  clear hmk
  go_wp2
  go_loopw [13] (fun t wr => ∃ k : Nat, k ≤ l.length ∧ t = .int .i64 k ∧ OwC 56 wr B (.slice (some ⟨B, 0, none⟩) l.length l.length) ((oldD D l).take k ++ List.replicate (l.length - k) chg0) ∧ Kp none' w wr) (fun t _ => l.length - (intOf t).toNat)
  case atStart => exact ⟨0, Nat.zero_le _, rfl, by simpa using hOC, hka⟩
  case round =>
    obtain ⟨k, hk, rfl, hOr, hK⟩ := hrel
    clear hOC hka
    by_cases hlt : k < l.length
    · have hki : (k : Int) < (l.length : Int) := by omega
      obtain ⟨b, o, rfl, hbm, hbl, hq0, hq1⟩ := ha.out k hlt
      have d0 := hK.cell hq0 (fun h => h)
      have d1 := hK.cell hq1 (fun h => h)
      have hpr := hp l[k] (List.getElem_mem hlt)
      obtain ⟨q, hq⟩ : ∃ q : Nat, l[k].page = q := ⟨l[k].page.toNat, by omega⟩
      have hqn : q < n := by omega
      have HTK := hide (oldD_take D l k hlt)
      have HTL : Hid (((oldD D l).take k).length = k) := by show _ = _; rw [List.length_take, oldD_len]; omega
      rw [hq] at d0 HTK
      rw [Int.toNat_natCast] at HTK
      obtain ⟨m, hm⟩ : ∃ m, l.length - k = m + 1 := ⟨l.length - k - 1, by omega⟩
      have Hm : Hid (l.length - (k + 1) = m) := by show _ = _; omega
      rw [hm] at hOr
      have hkl : k < ((oldD D l).take k ++ List.replicate (m + 1) chg0).length := by rw [List.length_append, HTL.out, List.length_replicate]; omega
      have hka := Kp.alloc none' wr (.cells #[.int .i64 (q : Int), .string l[k].data] 56)
      have hv := chg_var wr ⟨q, l[k].data⟩ 56
      clear hq hq0 hq1 hpr
      generalize l[k].data = x at *
      obtain ⟨wb, Hb⟩ : ∃ wb, Hid (wr.alloc (.cells #[.int .i64 (q : Int), .string x] 56) = wb) := ⟨_, rfl⟩
      obtain ⟨X, HX⟩ : ∃ X, Hid (lookS D (placeN q) = X) := ⟨_, rfl⟩
      rw [HX.out] at HTK
      go_upto_region 5 with fail
      rw [Hb.out]
      rw [show (wr.alloc (.cells #[.int .i64 (⟨q, x⟩ : Chg).page, .string (⟨q, x⟩ : Chg).data] 56)) = wr.alloc (.cells #[.int .i64 (q : Int), .string x] 56) from rfl, Hb.out] at hv
      rw [Hb.out] at hka
      have v0 : wb.cell? ⟨wr.heap.size, 0, none⟩ = some (.int .i64 (q : Int)) := hv.1
      have hgB : wr.heap.size ≠ B := by have := hK.size; have h1 := (hOr.at k hkl).1 0 (by omega); obtain ⟨z, hz⟩ := Option.isSome_iff_exists.1 h1.1; have := lt_of_cell hz; omega
      generalize wr.heap.size = gg at *
      have hcb : wb.drew.cell? ⟨g, 0, none⟩ = some (.pointer (some ⟨p.d, 0, none⟩)) := (hK.then hka).cell hc0 (fun h => h)
      have hDb := (hD.keptN (hK.then hka)).drew
      have hlk := look_place g q p D wb.drew hcb hDb (by omega) (fun j hj => by unfold placeN; omega)
      rw [HX.out] at hlk
      have hOb := hOr.keptN hka
      have v0d : wb.drew.cell? ⟨gg, 0, none⟩ = some (.int .i64 (q : Int)) := v0
      have dr : Kp none' wb wb.drew := Kp.drew _ _
      have kS : ∀ W : World, W.cell? ⟨gg, 0, none⟩ = some (.int .i64 (q : Int)) → ((W.setCell ⟨B, k * 2, none⟩ (.int .i64 (q : Int))).setCell ⟨B, k * 2 + 1, none⟩ (.string X)).cell? ⟨gg, 0, none⟩ = some (.int .i64 (q : Int)) := fun W h => (Kp.setCell (S := only B) _ B _ _ rfl).cell ((Kp.setCell (S := only B) W B _ _ rfl).cell h hgB) hgB
      clear hv d0 d1 hOr
      go_region_held_law (fun W => W.cell? ⟨gg, 0, none⟩ = some (.int .i64 (q : Int))) (first | assumption | exact kS _ (by assumption)) (first
        | (go_at_call 42; refine hlk.mono ?_; rintro e w5 ⟨rfl, hk5⟩; have S5 : Kp none' wb w5 := dr.then hk5; have T0 : w5.cell? ⟨gg, 0, none⟩ = some (.int .i64 (q : Int)) := S5.cell v0 (fun h => h); have hO5 := hOb.keptN S5; obtain ⟨x0, x1, y0, y1, y2, y3⟩ := hO5.facts k hkl (.int .i64 (q : Int)))
        | fail)
      have hst := hO5.stored k hkl ⟨q, X⟩
      have e1 := set_nextC ((oldD D l).take k) m ⟨q, X⟩
      rw [HTL.out] at e1
      rw [e1, ← HTK.out] at hst
      have HST := hide hst
      have HKK := hide (Kp.ofGrown hst.2 (S := only B) (fun k he _ => by cases he; rfl))
      obtain ⟨w6, H6⟩ : ∃ w6, Hid ((w5.setCell ⟨B, k * 2, none⟩ (.int .i64 (q : Int))).setCell ⟨B, k * 2 + 1, none⟩ (.string X) = w6) := ⟨_, rfl⟩
      rw [H6.out]
      rw [show w5.setCells B (k * 2) (⟨q, X⟩ : Chg).cells = (w5.setCell ⟨B, k * 2, none⟩ (.int .i64 (q : Int))).setCell ⟨B, k * 2 + 1, none⟩ (.string X) from rfl, H6.out] at HST HKK
      clear hst e1 hO5 y0 y1 y2 y3 kS T0
      go_wp2
      go_roundw
      case rel => exact ⟨k + 1, by omega, by go_num, by rw [Hm.out]; exact HST.out.1, ((hK.then hka).then S5).trans HKK.out (fun _ _ h => h) (fun j hj he => absurd hj (by have := HB.out; unfold only at he; omega))⟩
      case measure => simp [intOf]; omega
    · obtain rfl : k = l.length := by omega
      have hfull : (oldD D l).take l.length ++ List.replicate (l.length - l.length) chg0 = oldD D l := by rw [Nat.sub_self, List.take_of_length_le (by rw [oldD_len]; exact Nat.le_refl _)]; simp
      rw [hfull] at hOr
      go_wp2
      go_ret
      exact ⟨_, rfl, hOr.mono (by have := HB.out; omega), hK⟩

/-- For which error nothing is done. -/
def refE (n : Nat) (bl l : List Chg) : Int := if 0 < bl.length then 13 else if 31 < l.length then 3 else if allB n (l.map Chg.page) then (if ∀ c ∈ l, c.data.size = 256 then wE (l.map Chg.page) else 1) else 7
set_option maxRecDepth 100000 in
set_option maxHeartbeats 800000 in
theorem refusal_any (g n : Nat) (p : Dp) (c : Int) (bv : Value) (bl : List Chg) (v : Value) (l : List Chg) (S : Nat → Prop) (w : World) (hP : Pag w g p n c bv bl) (hbl : bl.length ≤ 31) (hS : Chs S w v l) (hr : i64s (l.map Chg.page)) :
    Calls Tryz.prog 26 #[.pointer (some ⟨g, 0, none⟩), v] w fun e w' => e = .returned (.int .i64 (refE n bl l)) ∧ Kp none' w w' := by
  have hc1 := hP.c1
  have hc3 := hP.c3
  obtain ⟨ab, cb, hbv⟩ := hP.bs.shape
  subst hbv
  obtain ⟨a, cc, rfl, hlc, hcm, ha'⟩ := id hS
  have hlm : l.length ≤ maxLen := Nat.le_trans hlc hcm
  unfold maxLen at hlm
  have ha := hide ha'
  clear ha'
  by_cases hb : 0 < bl.length
  · have hE : refE n bl l = 13 := by unfold refE; rw [if_pos hb]
    have hbi : (0 : Int) < (bl.length : Int) := by omega
    go_enter Tryz.func26, Tryz.ntmps26
    go_wp2
    go_ret
    exact ⟨by first | rfl | (rw [hE]; rfl), Kp.refl _ _⟩
  · have hbi : ¬ (0 : Int) < (bl.length : Int) := by omega
    by_cases hl : 31 < l.length
    · have hE : refE n bl l = 3 := by unfold refE; rw [if_neg hb, if_pos hl]
      have hli : (31 : Int) < (l.length : Int) := by omega
      go_enter Tryz.func26, Tryz.ntmps26
      go_wp2
      go_ret
      exact ⟨by first | rfl | (rw [hE]; rfl), Kp.refl _ _⟩
    · have hli : ¬ (31 : Int) < (l.length : Int) := by omega
      have hlen : (l.map Chg.page).length ≤ 1000000 := by rw [List.length_map]; omega
      cases hall : allB n (l.map Chg.page) with
      | false =>
        have hE : refE n bl l = 7 := by unfold refE; rw [if_neg hb, if_neg hl, hall]; rfl
        have HALL := hide hall
        clear hall
        go_enter Tryz.func26, Tryz.ntmps26
        go_upto_region 6 with (first
          | (go_at_call 49; refine (pagesOf_any _ l S _ hS (by omega)).mono ?_; rintro e w1 ⟨u, rfl, hO, hk1⟩)
          | fail)
        have hq1 := hk1.cell hc1 (fun h => h)
        have hSl := hO.sl
        go_wp2_with (first
          | (go_at_call 47; refine (hasAll_any g n _ _ _ _ hq1 hSl hlen).mono ?_; rintro e w2 ⟨rfl, hk2⟩; rw [HALL.out])
          | fail)
        go_ret
        exact ⟨by first | rfl | (rw [hE]; rfl), hk1.then hk2⟩
      | true =>
        have HALL := hide hall
        have HE1 : Hid ((∀ c ∈ l, c.data.size = 256) → wE (l.map Chg.page) = refE n bl l) := fun h => by unfold refE; rw [if_neg hb, if_neg hl, hall, if_pos rfl, if_pos h]
        have HE2 : Hid ((¬ ∀ c ∈ l, c.data.size = 256) → refE n bl l = 1) := fun h => by unfold refE; rw [if_neg hb, if_neg hl, hall, if_pos rfl, if_neg h]
        clear hall
        obtain ⟨E, HE⟩ : ∃ E, Hid (refE n bl l = E) := ⟨_, rfl⟩
        rw [HE.out] at HE1 HE2 ⊢
        go_enter Tryz.func26, Tryz.ntmps26
        go_upto_region 6 with (first
          | (go_at_call 49; refine (pagesOf_any _ l S _ hS (by omega)).mono ?_; rintro e w1 ⟨u, rfl, hO, hk1⟩)
          | fail)
        have hq1 := hk1.cell hc1 (fun h => h)
        have hSl := hO.sl
        go_upto_region 8 with (first
          | (go_at_call 47; refine (hasAll_any g n _ _ _ _ hq1 hSl hlen).mono ?_; rintro e w2 ⟨rfl, hk2⟩; rw [HALL.out])
          | fail)
        have hO2 := hO.keptN hk2
        clear hO hSl hq1
        go_wp2
        go_loopw [27] (fun t wr => ∃ j : Nat, j ≤ l.length ∧ t = .int .i64 j ∧ (∀ c ∈ l.take j, c.data.size = 256) ∧ Kp none' w wr ∧ Kp none' w2 wr) (fun t _ => l.length - (intOf t).toNat)
        case atStart => exact ⟨0, Nat.zero_le _, rfl, by simp, hk1.then hk2, Kp.refl _ _⟩
        case round =>
          obtain ⟨j, hj, rfl, hA, hK, hK2⟩ := hrel
          by_cases hlt : j < l.length
          · have hji : (j : Int) < (l.length : Int) := by omega
            obtain ⟨b, o, rfl, hbm, hbl2, hq0, hq1⟩ := ha.out j hlt
            have d0 := hK.cell hq0 (fun h => h)
            have d1 := hK.cell hq1 (fun h => h)
            have HT := hide (List.take_succ_eq_append_getElem hlt)
            have hmem : l[j] ∈ l := List.getElem_mem hlt
            have hv := chg_var wr l[j] 56
            have hka := Kp.alloc none' wr (.cells #[.int .i64 l[j].page, .string l[j].data] 56)
            have HA := hide hA
            clear hA hq0 hq1
            generalize l[j] = x at *
            obtain ⟨wb, Hb⟩ : ∃ wb, Hid (wr.alloc (.cells #[.int .i64 x.page, .string x.data] 56) = wb) := ⟨_, rfl⟩
            go_upto_region 11 with fail
            rw [Hb.out]
            rw [Hb.out] at hv hka
            have v1 := hv.2
            generalize wr.heap.size = gg at *
            clear hv d0 d1
            by_cases he : x.data.size = 256
            · have hne : ((x.data.size : Int) != 256) = false := by simp [he]
              have HEE := hide he
              clear he
              go_wp2
              go_roundw
              case rel =>
                refine ⟨j + 1, by omega, by go_num, ?_, hK.then hka, hK2.then hka⟩
                rw [HT.out]
                intro c hc
                rcases List.mem_append.1 hc with hc | hc
                · exact HA.out c hc
                · rw [List.mem_singleton.1 hc]; exact HEE.out
              case measure => simp [intOf]; omega
            · have hne : ((x.data.size : Int) != 256) = true := by simp; omega
              have hE1 : E = 1 := HE2.out (fun h => he (h x hmem))
              clear he
              go_wp2
              go_ret
              exact ⟨by rw [hE1]; rfl, hK.then hka⟩
          · obtain rfl : j = l.length := by omega
            rw [List.take_length] at hA
            have hE1 := HE1.out hA
            have hSl := (hO2.keptN hK2).sl
            have huw := uwrite_any _ _ _ wr hSl hr
            rw [hE1] at huw
            go_wp2_with (go_at_call 50; refine huw.mono ?_; rintro e w5 ⟨rfl, hk5⟩)
            go_ret
            exact ⟨rfl, hK.then hk5⟩

end Go.Proofs.YtgfijbbibafdfaaGreat
