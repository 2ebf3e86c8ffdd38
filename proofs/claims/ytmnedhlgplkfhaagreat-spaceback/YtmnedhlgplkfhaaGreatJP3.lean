/- Contracts, over the turned program: a pager's images, refusal, settleMark, writeJournal. Conditions: those that each theorem states. Contracts, over the turned program: a pager's settleMark, writeJournal. Conditions: those that each theorem states. Contracts, over the turned program: a pager's Commit and its closures. Conditions: those that each theorem states. Contracts, over the turned program: the laws' fill and pages; the document's Zero, New, Right, With, Calls; same. Conditions: those that each theorem states. Contracts, over the turned program: the document's New, Right, With. Conditions: those that each theorem states. What a pager's calls make of its pages: plain mathematics on top of the contracts' words. Conditions: those that each theorem states. Contract, over the turned program: the document's With. Conditions: those that the theorem states. -/
import Derived.Test.YtmnedhlgplkfhaaGreatJP2
import Derived.Test.YtmnedhlgplkfhaaGreatJC
import Derived.Deep.RegionLaw
namespace Go.Proofs.YtmnedhlgplkfhaaGreat
open Go.RowKit
set_option linter.unusedVariables false

/-- What the pages of changes are, as they are read. -/
def oldD (D : Dv) (l : List Chg) : List Chg := l.map fun c => ⟨c.page, lookS D (placeN c.page.toNat)⟩
theorem oldD_len (D : Dv) (l : List Chg) : (oldD D l).length = l.length := by simp [oldD]
theorem oldD_take (D : Dv) (l : List Chg) (k : Nat) (h : k < l.length) : (oldD D l).take (k + 1) = (oldD D l).take k ++ [⟨l[k].page, lookS D (placeN l[k].page.toNat)⟩] := by
  rw [List.take_succ_eq_append_getElem (by rw [oldD_len]; exact h)]
  simp [oldD]
set_option maxRecDepth 100000 in
set_option maxHeartbeats 1600000 in
theorem images_any (g n : Nat) (p : Dp) (D : Dv) (v : Value) (l : List Chg) (w : World) (hc0 : w.cell? ⟨g, 0, none⟩ = some (.pointer (some ⟨p.d, 0, none⟩))) (hD : Dev w p D) (hn : 126 + 4 * n ≤ D.n) (hn2 : n ≤ 160)
    (hS : Chs (fun k => ¬ p.mem k) w v l) (hp : ∀ c ∈ l, 0 ≤ c.page ∧ c.page < n) (hl : l.length ≤ 31) :
    Calls Tryz.prog 92 #[.pointer (some ⟨g, 0, none⟩), v] w fun e w' => ∃ u, e = .returned u ∧ OwC 76 w' w.heap.size u (oldD D l) ∧ Kp none' w w' := by
  obtain ⟨a, c, rfl, _, _, ha'⟩ := hS
  have ha := hide ha'
  clear ha'
  have hgl : g < w.heap.size := lt_of_cell hc0
  obtain ⟨wa, hmk, hOC, hka⟩ := make_chgs w l.length (by omega)
  obtain ⟨B, HB⟩ : ∃ B, Hid (w.heap.size = B) := ⟨_, rfl⟩
  rw [HB.out] at hmk hOC
  go_enter Tryz.func92, Tryz.ntmps92
  go_upto_region 2 with (at_make; refine wpList_make_at rfl (.tmp 9) (.tmp 9) 73 rfl _ _ rfl rfl hmk ?_)
  clear hmk
  go_wp2
  go_loopw [13] (fun t wr => ∃ k : Nat, k ≤ l.length ∧ t = .int .i64 k ∧ OwC 76 wr B (.slice (some ⟨B, 0, none⟩) l.length l.length) ((oldD D l).take k ++ List.replicate (l.length - k) chg0) ∧ Kp none' w wr) (fun t _ => l.length - (intOf t).toNat)
  case atStart => exact ⟨0, Nat.zero_le _, rfl, by simpa using hOC, hka⟩
  case round =>
    obtain ⟨k, hk, rfl, hOr, hK⟩ := hrel
    clear hOC hka
    by_cases hlt : k < l.length
    · have hki : (k : Int) < (l.length : Int) := by omega
      obtain ⟨b, o, rfl, hbm, hbl, hq0, hq1⟩ := ha.out k hlt
      have d0 := hK.cell hq0 (fun h => h)
      have d1 := hK.cell hq1 (fun h => h)
      have hpr := hp l[k] (List.getElem_mem hlt)
      obtain ⟨q, hq⟩ : ∃ q : Nat, l[k].page = q := ⟨l[k].page.toNat, by omega⟩
      have hqn : q < n := by omega
      have HTK := hide (oldD_take D l k hlt)
      have HTL : Hid (((oldD D l).take k).length = k) := by show _ = _; rw [List.length_take, oldD_len]; omega
      rw [hq] at d0 HTK
      rw [Int.toNat_natCast] at HTK
      obtain ⟨m, hm⟩ : ∃ m, l.length - k = m + 1 := ⟨l.length - k - 1, by omega⟩
      have Hm : Hid (l.length - (k + 1) = m) := by show _ = _; omega
      rw [hm] at hOr
      have hkl : k < ((oldD D l).take k ++ List.replicate (m + 1) chg0).length := by rw [List.length_append, HTL.out, List.length_replicate]; omega
      have hka := Kp.alloc none' wr (.cells #[.int .i64 (q : Int), .string l[k].data] 76)
      have hv := chg_var wr ⟨q, l[k].data⟩ 76
      clear hq hq0 hq1 hpr
      generalize l[k].data = x at *
      obtain ⟨wb, Hb⟩ : ∃ wb, Hid (wr.alloc (.cells #[.int .i64 (q : Int), .string x] 76) = wb) := ⟨_, rfl⟩
      obtain ⟨X, HX⟩ : ∃ X, Hid (lookS D (placeN q) = X) := ⟨_, rfl⟩
      rw [HX.out] at HTK
      go_upto_region 5 with fail
      rw [Hb.out]
      rw [show (wr.alloc (.cells #[.int .i64 (⟨q, x⟩ : Chg).page, .string (⟨q, x⟩ : Chg).data] 76)) = wr.alloc (.cells #[.int .i64 (q : Int), .string x] 76) from rfl, Hb.out] at hv
      rw [Hb.out] at hka
      have v0 : wb.cell? ⟨wr.heap.size, 0, none⟩ = some (.int .i64 (q : Int)) := hv.1
      have hgB : wr.heap.size ≠ B := by have := hK.size; have h1 := (hOr.at k hkl).1 0 (by omega); obtain ⟨z, hz⟩ := Option.isSome_iff_exists.1 h1.1; have := lt_of_cell hz; omega
      generalize wr.heap.size = gg at *
      have hcb : wb.drew.cell? ⟨g, 0, none⟩ = some (.pointer (some ⟨p.d, 0, none⟩)) := (hK.then hka).cell hc0 (fun h => h)
      have hDb := (hD.keptN (hK.then hka)).drew
      have hlk := look_place g q p D wb.drew hcb hDb (by omega) (fun j hj => by unfold placeN; omega)
      rw [HX.out] at hlk
      have hOb := hOr.keptN hka
      have v0d : wb.drew.cell? ⟨gg, 0, none⟩ = some (.int .i64 (q : Int)) := v0
      have dr : Kp none' wb wb.drew := Kp.drew _ _
      have kS : ∀ W : World, W.cell? ⟨gg, 0, none⟩ = some (.int .i64 (q : Int)) → ((W.setCell ⟨B, k * 2, none⟩ (.int .i64 (q : Int))).setCell ⟨B, k * 2 + 1, none⟩ (.string X)).cell? ⟨gg, 0, none⟩ = some (.int .i64 (q : Int)) := fun W h => (Kp.setCell (S := only B) _ B _ _ rfl).cell ((Kp.setCell (S := only B) W B _ _ rfl).cell h hgB) hgB
      clear hv d0 d1 hOr
      go_region_held_law (fun W => W.cell? ⟨gg, 0, none⟩ = some (.int .i64 (q : Int))) (first | assumption | exact kS _ (by assumption)) (first
        | (go_at_call 69; refine hlk.mono ?_; rintro e w5 ⟨rfl, hk5⟩; have S5 : Kp none' wb w5 := dr.then hk5; have T0 : w5.cell? ⟨gg, 0, none⟩ = some (.int .i64 (q : Int)) := S5.cell v0 (fun h => h); have hO5 := hOb.keptN S5; obtain ⟨x0, x1, y0, y1, y2, y3⟩ := hO5.facts k hkl (.int .i64 (q : Int)))
        | fail)
      have hst := hO5.stored k hkl ⟨q, X⟩
      have e1 := set_nextC ((oldD D l).take k) m ⟨q, X⟩
      rw [HTL.out] at e1
      rw [e1, ← HTK.out] at hst
      have HST := hide hst
      have HKK := hide (Kp.ofGrown hst.2 (S := only B) (fun k he _ => by cases he; rfl))
      obtain ⟨w6, H6⟩ : ∃ w6, Hid ((w5.setCell ⟨B, k * 2, none⟩ (.int .i64 (q : Int))).setCell ⟨B, k * 2 + 1, none⟩ (.string X) = w6) := ⟨_, rfl⟩
      rw [H6.out]
      rw [show w5.setCells B (k * 2) (⟨q, X⟩ : Chg).cells = (w5.setCell ⟨B, k * 2, none⟩ (.int .i64 (q : Int))).setCell ⟨B, k * 2 + 1, none⟩ (.string X) from rfl, H6.out] at HST HKK
      clear hst e1 hO5 y0 y1 y2 y3 kS T0
      go_wp2
      go_roundw
      case rel => exact ⟨k + 1, by omega, by go_num, by rw [Hm.out]; exact HST.out.1, ((hK.then hka).then S5).trans HKK.out (fun _ _ h => h) (fun j hj he => absurd hj (by have := HB.out; unfold only at he; omega))⟩
      case measure => simp [intOf]; omega
    · obtain rfl : k = l.length := by omega
      have hfull : (oldD D l).take l.length ++ List.replicate (l.length - l.length) chg0 = oldD D l := by rw [Nat.sub_self, List.take_of_length_le (by rw [oldD_len]; exact Nat.le_refl _)]; simp
      rw [hfull] at hOr
      go_wp2
      go_ret
      exact ⟨_, rfl, hOr.mono (by have := HB.out; omega), hK⟩

/-- For which error nothing is done. -/
def refE (n : Nat) (bl l : List Chg) : Int := if 0 < bl.length then 13 else if 31 < l.length then 3 else if allB n (l.map Chg.page) then (if ∀ c ∈ l, c.data.size = 256 then wE (l.map Chg.page) else 1) else 7
set_option maxRecDepth 100000 in
set_option maxHeartbeats 800000 in
theorem refusal_any (g n : Nat) (p : Dp) (c : Int) (bv : Value) (bl : List Chg) (v : Value) (l : List Chg) (S : Nat → Prop) (w : World) (hP : Pag w g p n c bv bl) (hbl : bl.length ≤ 31) (hS : Chs S w v l) (hr : i64s (l.map Chg.page)) :
    Calls Tryz.prog 91 #[.pointer (some ⟨g, 0, none⟩), v] w fun e w' => e = .returned (.int .i64 (refE n bl l)) ∧ Kp none' w w' := by
  have hc1 := hP.c1
  have hc3 := hP.c3
  obtain ⟨ab, cb, hbv⟩ := hP.bs.shape
  subst hbv
  obtain ⟨a, cc, rfl, hlc, hcm, ha'⟩ := id hS
  have hlm : l.length ≤ maxLen := Nat.le_trans hlc hcm
  unfold maxLen at hlm
  have ha := hide ha'
  clear ha'
  by_cases hb : 0 < bl.length
  · have hE : refE n bl l = 13 := by unfold refE; rw [if_pos hb]
    have hbi : (0 : Int) < (bl.length : Int) := by omega
    go_enter Tryz.func91, Tryz.ntmps91
    go_wp2
    go_ret
    exact ⟨by first | rfl | (rw [hE]; rfl), Kp.refl _ _⟩
  · have hbi : ¬ (0 : Int) < (bl.length : Int) := by omega
    by_cases hl : 31 < l.length
    · have hE : refE n bl l = 3 := by unfold refE; rw [if_neg hb, if_pos hl]
      have hli : (31 : Int) < (l.length : Int) := by omega
      go_enter Tryz.func91, Tryz.ntmps91
      go_wp2
      go_ret
      exact ⟨by first | rfl | (rw [hE]; rfl), Kp.refl _ _⟩
    · have hli : ¬ (31 : Int) < (l.length : Int) := by omega
      have hlen : (l.map Chg.page).length ≤ 1000000 := by rw [List.length_map]; omega
      cases hall : allB n (l.map Chg.page) with
      | false =>
        have hE : refE n bl l = 7 := by unfold refE; rw [if_neg hb, if_neg hl, hall]; rfl
        have HALL := hide hall
        clear hall
        go_enter Tryz.func91, Tryz.ntmps91
        go_upto_region 6 with (first
          | (go_at_call 114; refine (pagesOf_any _ l S _ hS (by omega)).mono ?_; rintro e w1 ⟨u, rfl, hO, hk1⟩)
          | fail)
        have hq1 := hk1.cell hc1 (fun h => h)
        have hSl := hO.sl
        go_wp2_with (first
          | (go_at_call 105; refine (hasAll_any g n _ _ _ _ hq1 hSl hlen).mono ?_; rintro e w2 ⟨rfl, hk2⟩; rw [HALL.out])
          | fail)
        go_ret
        exact ⟨by first | rfl | (rw [hE]; rfl), hk1.then hk2⟩
      | true =>
        have HALL := hide hall
        have HE1 : Hid ((∀ c ∈ l, c.data.size = 256) → wE (l.map Chg.page) = refE n bl l) := fun h => by unfold refE; rw [if_neg hb, if_neg hl, hall, if_pos rfl, if_pos h]
        have HE2 : Hid ((¬ ∀ c ∈ l, c.data.size = 256) → refE n bl l = 1) := fun h => by unfold refE; rw [if_neg hb, if_neg hl, hall, if_pos rfl, if_neg h]
        clear hall
        obtain ⟨E, HE⟩ : ∃ E, Hid (refE n bl l = E) := ⟨_, rfl⟩
        rw [HE.out] at HE1 HE2 ⊢
        go_enter Tryz.func91, Tryz.ntmps91
        go_upto_region 6 with (first
          | (go_at_call 114; refine (pagesOf_any _ l S _ hS (by omega)).mono ?_; rintro e w1 ⟨u, rfl, hO, hk1⟩)
          | fail)
        have hq1 := hk1.cell hc1 (fun h => h)
        have hSl := hO.sl
        go_upto_region 8 with (first
          | (go_at_call 105; refine (hasAll_any g n _ _ _ _ hq1 hSl hlen).mono ?_; rintro e w2 ⟨rfl, hk2⟩; rw [HALL.out])
          | fail)
        have hO2 := hO.keptN hk2
        clear hO hSl hq1
        go_wp2
        go_loopw [27] (fun t wr => ∃ j : Nat, j ≤ l.length ∧ t = .int .i64 j ∧ (∀ c ∈ l.take j, c.data.size = 256) ∧ Kp none' w wr ∧ Kp none' w2 wr) (fun t _ => l.length - (intOf t).toNat)
        case atStart => exact ⟨0, Nat.zero_le _, rfl, by simp, hk1.then hk2, Kp.refl _ _⟩
        case round =>
          obtain ⟨j, hj, rfl, hA, hK, hK2⟩ := hrel
          by_cases hlt : j < l.length
          · have hji : (j : Int) < (l.length : Int) := by omega
            obtain ⟨b, o, rfl, hbm, hbl2, hq0, hq1⟩ := ha.out j hlt
            have d0 := hK.cell hq0 (fun h => h)
            have d1 := hK.cell hq1 (fun h => h)
            have HT := hide (List.take_succ_eq_append_getElem hlt)
            have hmem : l[j] ∈ l := List.getElem_mem hlt
            have hv := chg_var wr l[j] 76
            have hka := Kp.alloc none' wr (.cells #[.int .i64 l[j].page, .string l[j].data] 76)
            have HA := hide hA
            clear hA hq0 hq1
            generalize l[j] = x at *
            obtain ⟨wb, Hb⟩ : ∃ wb, Hid (wr.alloc (.cells #[.int .i64 x.page, .string x.data] 76) = wb) := ⟨_, rfl⟩
            go_upto_region 11 with fail
            rw [Hb.out]
            rw [Hb.out] at hv hka
            have v1 := hv.2
            generalize wr.heap.size = gg at *
            clear hv d0 d1
            by_cases he : x.data.size = 256
            · have hne : ((x.data.size : Int) != 256) = false := by simp [he]
              have HEE := hide he
              clear he
              go_wp2
              go_roundw
              case rel =>
                refine ⟨j + 1, by omega, by go_num, ?_, hK.then hka, hK2.then hka⟩
                rw [HT.out]
                intro c hc
                rcases List.mem_append.1 hc with hc | hc
                · exact HA.out c hc
                · rw [List.mem_singleton.1 hc]; exact HEE.out
              case measure => simp [intOf]; omega
            · have hne : ((x.data.size : Int) != 256) = true := by simp; omega
              have hE1 : E = 1 := HE2.out (fun h => he (h x hmem))
              clear he
              go_wp2
              go_ret
              exact ⟨by rw [hE1]; rfl, hK.then hka⟩
          · obtain rfl : j = l.length := by omega
            rw [List.take_length] at hA
            have hE1 := HE1.out hA
            have hSl := (hO2.keptN hK2).sl
            have huw := uwrite_any _ _ _ wr hSl hr
            rw [hE1] at huw
            go_wp2_with (go_at_call 115; refine huw.mono ?_; rintro e w5 ⟨rfl, hk5⟩)
            go_ret
            exact ⟨rfl, hK.then hk5⟩

end Go.Proofs.YtmnedhlgplkfhaaGreat

namespace Go.Proofs.YtmnedhlgplkfhaaGreat
open Go.RowKit
set_option linter.unusedVariables false

set_option maxRecDepth 100000 in
set_option maxHeartbeats 400000 in
theorem index_none (a : Option Addr) (c : Nat) (z : Int) (w : World) : Calls Tryz.prog 131 #[.slice a 0 c, .int .i64 z] w fun e w' => e = .returned (.int .i64 (-1)) ∧ Kp none' w w' := by
  go_enter Tryz.func131, Tryz.ntmps131
  go_wp2
  go_loopw [8] (fun t wr => t = .int .i64 0 ∧ Kp none' w wr) (fun t _ => 0)
  case atStart => exact ⟨rfl, Kp.refl _ _⟩
  case round =>
    obtain ⟨rfl, hK⟩ := hrel
    go_wp2
    go_ret
    exact ⟨rfl, hK⟩
set_option maxRecDepth 100000 in
set_option maxHeartbeats 400000 in
theorem contains_none (a : Option Addr) (c : Nat) (z : Int) (w : World) : Calls Tryz.prog 116 #[.slice a 0 c, .int .i64 z] w fun e w' => e = .returned (.bool false) ∧ Kp none' w w' := by
  go_enter Tryz.func116, Tryz.ntmps116
  go_wp2_with (go_at_call 131; refine (index_none _ _ _ _).mono ?_; rintro e w1 ⟨rfl, hk1⟩)
  go_ret
  exact ⟨rfl, hk1⟩
set_option maxRecDepth 100000 in
set_option maxHeartbeats 400000 in
theorem settleMark_any (g : Nat) (p : Dp) (D : Dv) (w : World) (hc0 : w.cell? ⟨g, 0, none⟩ = some (.pointer (some ⟨p.d, 0, none⟩))) (hD : Dev w p D) (hu : ∀ k, D.u k = none) :
    Calls Tryz.prog 94 #[.pointer (some ⟨g, 0, none⟩)] w fun e w' => e = .returned (.int .i64 0) ∧ Kp none' w w' := by
  have hU : unsI D = [] := by
    unfold unsI unsL
    rw [List.map_eq_nil_iff, List.filter_eq_nil_iff]
    intro k _
    simp [hu]
  go_enter Tryz.func94, Tryz.ntmps94
  go_wp2_with (first
    | (go_at_call 117; refine (unsure_any p D _ hD).mono ?_; rintro e w1 ⟨v, rfl, hO, hk1⟩; rw [hU] at hO; obtain ⟨a, c, rfl, _⟩ := hO.open; rw [show ([] : List Int).length = 0 from rfl])
    | (go_at_call 116; refine (contains_none _ _ _ _).mono ?_; rintro e w2 ⟨rfl, hk2⟩)
    | fail)
  go_ret
  exact ⟨rfl, hk1.then hk2⟩
theorem size_mk64 (x : List UInt8) (h : x.length = 64) : (⟨x.toArray⟩ : ByteArray).size ≤ maxLen := by
  show x.toArray.size ≤ maxLen
  rw [List.size_toArray, h]
  unfold maxLen
  omega
set_option maxRecDepth 100000 in
set_option maxHeartbeats 800000 in
theorem writeJournal_any (g n : Nat) (p : Dp) (D : Dv) (v : Value) (l : List Chg) (w : World) (hc0 : w.cell? ⟨g, 0, none⟩ = some (.pointer (some ⟨p.d, 0, none⟩))) (hgp : ¬ p.mem g) (hD : Dev w p D) (h0 : 0 ≤ D.c) (h1 : D.c ≤ 998000) (hn : 126 + 4 * n ≤ D.n) (hn2 : n ≤ 160)
    (hS : Chs (fun k => ¬ p.mem k) w v l) (hok : okC n l) :
    Calls Tryz.prog 96 #[.pointer (some ⟨g, 0, none⟩), v] w fun e w' => e = .returned (.int .i64 (D.goE (jrW l))) ∧ Dev w' p (D.go (jrW l)) ∧ Kp p.mem w w' := by
  have hm := hok.m
  have hpo := pagesOf_any v l _ w hS (by omega)
  obtain ⟨a, c, rfl, _, _, ha'⟩ := hS
  have ha := hide ha'
  clear ha'
  have hwE := okC_wE hn2 hok
  have hr : i64s (l.map Chg.page) := fun z hz => by
    obtain ⟨x, hx, rfl⟩ := List.mem_map.1 hz
    have := hok.p x hx
    omega
  have hwl : (wB (l.map Chg.page)).length = 64 := by
    unfold wB
    rw [if_pos hwE]
    exact whole_len _
  have hj : jrW l = [.wr 1 (wB (l.map Chg.page))] ++ imW 0 l := rfl
  have hwg := write_go D 1 (wB (l.map Chg.page)) (by omega) hwl
  have hms := size_mk64 _ hwl
  obtain ⟨W, HW⟩ : ∃ W, Hid (wB (l.map Chg.page) = W) := ⟨_, rfl⟩
  obtain ⟨E, HE⟩ : ∃ E, Hid (D.goE (jrW l) = E) := ⟨_, rfl⟩
  obtain ⟨F, HF⟩ : ∃ F, Hid (D.go (jrW l) = F) := ⟨_, rfl⟩
  rw [HE.out, HF.out]
  rw [hj] at HE HF
  rw [HW.out] at HE HF hwg hms
  obtain ⟨st, HST⟩ : ∃ st, Hid (Stp.wr 1 W = st) := ⟨_, rfl⟩
  rw [HST.out] at HE HF hwg
  obtain ⟨M, HM⟩ : ∃ M, Hid ((⟨W.toArray⟩ : ByteArray) = M) := ⟨_, rfl⟩
  rw [HM.out] at hwg hms
  rw [show (((1 : Nat) : Int)) = 1 from rfl] at hwg
  have HWG := hide hwg
  clear hwg hj
  go_enter Tryz.func96, Tryz.ntmps96
  go_upto_region 4 with (first
    | (go_at_call 114; refine hpo.mono ?_; rintro e w1 ⟨u, rfl, hO, hk1⟩; have hSl := hO.sl)
    | (go_at_call 115; refine (uwrite_any _ _ _ _ hSl hr).mono ?_; rintro e w2 ⟨rfl, hk2⟩; rw [hwE, HW.out, HM.out])
    | fail)
  have hks := hk1.then hk2
  have hDs := hD.keptN hks
  have hcs := hks.cell hc0 (fun h => h)
  have hcw := write_any p D 1 M w2 hDs h0 (by omega) hms
  rw [HWG.out.1, HWG.out.2] at hcw
  rcases goE_or [st] D with he | he
  · rw [he] at hcw
    have hgn := go_n [st] D
    have Hgo : Hid (∀ L, D.goE ([st] ++ L) = (D.go [st]).goE L ∧ D.go ([st] ++ L) = (D.go [st]).go L) := fun L => by
      rw [goE_append, go_append, if_pos he, if_pos he]
      exact ⟨rfl, rfl⟩
    rw [(Hgo.out (imW 0 l)).1] at HE
    rw [(Hgo.out (imW 0 l)).2] at HF
    clear Hgo
    have h0' : 0 ≤ (D.go [st]).c := by omega
    have h1' : (D.go [st]).c ≤ 998001 := by have := hgn.2.2.2.2; simp at this; omega
    have hn' : 126 + 4 * n ≤ (D.go [st]).n := by rw [hgn.1]; exact hn
    clear hgn
    generalize D.go [st] = D1 at *
    go_upto_region 7 with (first
      | (go_at_call 99; refine hcw.mono ?_; rintro e w3 ⟨rfl, hD3, hk3⟩)
      | fail)
    have hK3 : Kp p.mem w w3 := hks.nThen hk3
    clear hcw hDs hcs
    go_wp2
    go_loopw [31] (fun t wr => ∃ j : Nat, j ≤ l.length ∧ t = .int .i64 j ∧ D1.goE (imW 0 (l.take j)) = 0 ∧ Dev wr p (D1.go (imW 0 (l.take j))) ∧ Kp p.mem w wr) (fun t _ => l.length - (intOf t).toNat)
    case atStart => exact ⟨0, Nat.zero_le _, rfl, rfl, hD3, hK3⟩
    case round =>
      obtain ⟨j, hj, rfl, hz, hDr, hK⟩ := hrel
      by_cases hlt : j < l.length
      · have hji : (j : Int) < (l.length : Int) := by omega
        obtain ⟨b, o, rfl, hbm, hbl, hq0, hq1⟩ := ha.out j hlt
        have d0 := hK.cell hq0 hbm
        have d1 := hK.cell hq1 hbm
        have hcr := hK.cell hc0 hgp
        have hdr := hok.d l[j] (List.getElem_mem hlt)
        have ht := imW_take l j hlt
        have hall := imW_all l j hlt
        have hgn := go_n (imW 0 (l.take j)) D1
        have hpl := imW_len (l.take j) 0
        have htl : (l.take j).length = j := by rw [List.length_take]; omega
        have hD0 : 0 ≤ (D1.go (imW 0 (l.take j))).c := by omega
        have hD1 : (D1.go (imW 0 (l.take j))).c ≤ 999000 := by omega
        have hnn : ∀ i, i < 4 → imageN j i < (D1.go (imW 0 (l.take j))).n := fun i hi => by rw [hgn.1]; unfold imageN; omega
        have Hok := hide (seq_ok (imW 0 (l.take j)) (pgW (imageN j) l[j].data) D1 hz)
        have Hbad := hide (seq_bad (imW 0 (l.take j)) (pgW (imageN j) l[j].data) (imW (j + 1) (l.drop (j + 1))) D1 hz)
        rw [← ht] at Hok
        rw [← hall, HE.out, HF.out] at Hbad
        have hka := Kp.alloc none' wr (.cells #[.int .i64 l[j].page, .string l[j].data] 76)
        have hv := chg_var wr l[j] 76
        clear ht hall hgn hpl htl hq0 hq1
        generalize l[j].data = x at *
        generalize l[j].page = y at *
        generalize D1.go (imW 0 (l.take j)) = Dj at *
        obtain ⟨wb, Hb⟩ : ∃ wb, Hid (wr.alloc (.cells #[.int .i64 y, .string x] 76) = wb) := ⟨_, rfl⟩
        go_upto_region 10 with fail
        rw [Hb.out]
        rw [Hb.out] at hka hv
        have v1 := hv.2
        generalize wr.heap.size = gg at *
        have hDb := hDr.keptN hka
        have hcb := hka.cell hcr (fun h => h)
        have hc2 := write_image g j x p Dj wb hcb hgp hDb hD0 hD1 hdr (by omega) hnn
        clear hv d0 d1
        rcases goE_or (pgW (imageN j) x) Dj with he | he
        · have HO2 := hide (Hok.out he)
          rw [he] at hc2
          clear Hok Hbad
          go_wp2_with (go_at_call 118; refine hc2.mono ?_; rintro e w4 ⟨rfl, hD4, hk4⟩)
          go_roundw
          case rel => exact ⟨j + 1, by omega, by go_num, HO2.out.1, by rw [HO2.out.2]; exact hD4, (hK.thenN hka).then hk4⟩
          case measure => simp [intOf]; omega
        · have HO2 := hide (Hbad.out (by rw [he]; decide))
          rw [he] at hc2
          clear Hok Hbad
          go_wp2_with (go_at_call 118; refine hc2.mono ?_; rintro e w4 ⟨rfl, hD4, hk4⟩)
          go_ret
          exact ⟨by rw [HO2.out.1]; rfl, by rw [HO2.out.2]; exact hD4, (hK.thenN hka).then hk4⟩
      · obtain rfl : j = l.length := by omega
        rw [List.take_length] at hz hDr
        rw [HE.out] at hz
        rw [HF.out] at hDr
        go_wp2
        go_ret
        exact ⟨by rw [hz]; rfl, hDr, hK⟩
  · rw [he] at hcw
    have Hgo : Hid (D.goE ([st] ++ imW 0 l) = 9 ∧ D.go ([st] ++ imW 0 l) = D.go [st]) := by
      show _ ∧ _
      rw [goE_append, go_append, he, if_neg (by decide), if_neg (by decide)]
      exact ⟨rfl, rfl⟩
    rw [Hgo.out.1] at HE
    rw [Hgo.out.2] at HF
    have hE9 := HE.out
    rw [HF.out] at hcw
    clear Hgo HE
    go_wp2_with (first
      | (go_at_call 99; refine hcw.mono ?_; rintro e w3 ⟨rfl, hD3, hk3⟩)
      | fail)
    go_ret
    exact ⟨by rw [← hE9]; rfl, hD3, hks.nThen hk3⟩

end Go.Proofs.YtmnedhlgplkfhaaGreat

namespace Go.Proofs.YtmnedhlgplkfhaaGreat
open Go.RowKit
set_option linter.unusedVariables false

set_option maxRecDepth 100000 in
set_option maxHeartbeats 400000 in
theorem commit1_any (b2 b3 g n : Nat) (p : Dp) (D : Dv) (v : Value) (l : List Chg) (w : World) (h2 : w.cell? ⟨b2, 0, none⟩ = some (.pointer (some ⟨g, 0, none⟩))) (h3 : w.cell? ⟨b3, 0, none⟩ = some v)
    (hc0 : w.cell? ⟨g, 0, none⟩ = some (.pointer (some ⟨p.d, 0, none⟩))) (hgp : ¬ p.mem g) (hD : Dev w p D) (h0 : 0 ≤ D.c) (h1 : D.c ≤ 998000) (hn : 126 + 4 * n ≤ D.n) (hn2 : n ≤ 160)
    (hS : Chs (fun k => ¬ p.mem k) w v l) (hok : okC n l) :
    Calls Tryz.prog 95 #[.pointer (some ⟨b2, 0, none⟩), .pointer (some ⟨b3, 0, none⟩)] w fun e w' => e = .returned (.int .i64 (D.goE (jrW l))) ∧ Dev w' p (D.go (jrW l)) ∧ Kp p.mem w w' := by
  have hc := writeJournal_any g n p D v l w hc0 hgp hD h0 h1 hn hn2 hS hok
  obtain ⟨a, c, rfl⟩ := hS.shape
  go_enter Tryz.func95, Tryz.ntmps95
  go_wp2_with (go_at_call 96; refine hc.mono ?_; rintro e w2 ⟨rfl, hD3, hk3⟩)
  go_ret
  exact ⟨rfl, hD3, hk3⟩
set_option maxRecDepth 100000 in
set_option maxHeartbeats 400000 in
theorem commit3_any (b2 b3 g n : Nat) (p : Dp) (D : Dv) (v : Value) (l : List Chg) (w : World) (h2 : w.cell? ⟨b2, 0, none⟩ = some (.pointer (some ⟨g, 0, none⟩))) (h3 : w.cell? ⟨b3, 0, none⟩ = some v)
    (hc0 : w.cell? ⟨g, 0, none⟩ = some (.pointer (some ⟨p.d, 0, none⟩))) (hgp : ¬ p.mem g) (hD : Dev w p D) (h0 : 0 ≤ D.c) (h1 : D.c ≤ 980000) (hn : 126 + 4 * n ≤ D.n) (hn2 : n ≤ 160)
    (hS : Chs (fun k => ¬ p.mem k) w v l) (hok : okC n l) :
    Calls Tryz.prog 101 #[.pointer (some ⟨b2, 0, none⟩), .pointer (some ⟨b3, 0, none⟩)] w fun e w' => e = .returned (.int .i64 (D.goE (stW l))) ∧ Dev w' p (D.go (stW l)) ∧ Kp p.mem w w' := by
  have hc := psettle_any g n p D v l w hc0 hgp hD h0 h1 hn hn2 hS hok
  obtain ⟨a, c, rfl⟩ := hS.shape
  go_enter Tryz.func101, Tryz.ntmps101
  go_wp2_with (go_at_call 102; refine hc.mono ?_; rintro e w2 ⟨rfl, hD3, hk3⟩)
  go_ret
  exact ⟨rfl, hD3, hk3⟩
theorem commit1_doer (b2 b3 g n N : Nat) (hN : 126 + 4 * n ≤ N) (p : Dp) (v : Value) (l : List Chg) (w : World) (h2 : w.cell? ⟨b2, 0, none⟩ = some (.pointer (some ⟨g, 0, none⟩))) (h3 : w.cell? ⟨b3, 0, none⟩ = some v)
    (hc0 : w.cell? ⟨g, 0, none⟩ = some (.pointer (some ⟨p.d, 0, none⟩))) (hgp : ¬ p.mem g) (hb2 : ¬ p.mem b2) (hb3 : ¬ p.mem b3) (hn2 : n ≤ 160)
    (hS : Chs (fun k => ¬ p.mem k) w v l) (hok : okC n l) : Doer (fun _ => True) 980000 N p w (.func (.func 95) #[] #[.pointer (some ⟨b2, 0, none⟩), .pointer (some ⟨b3, 0, none⟩)]) (jrW l) := by
  refine ⟨_, _, _, rfl, enters_of Tryz.func95 (by kernel_rfl) rfl, fun W D hk hD hN' _ h0 h1 => ?_⟩
  rw [show (#[] ++ #[Value.pointer (some ⟨b2, 0, none⟩), Value.pointer (some ⟨b3, 0, none⟩)] : Array Value) = #[Value.pointer (some ⟨b2, 0, none⟩), Value.pointer (some ⟨b3, 0, none⟩)] by simp]
  exact commit1_any b2 b3 g n p D v l W (hk.cell h2 hb2) (hk.cell h3 hb3) (hk.cell hc0 hgp) hgp hD h0 (by omega) (by omega) hn2 (hS.kept hk (fun _ h => h)) hok
theorem commit3_doer (b2 b3 g n N : Nat) (hN : 126 + 4 * n ≤ N) (p : Dp) (v : Value) (l : List Chg) (w : World) (h2 : w.cell? ⟨b2, 0, none⟩ = some (.pointer (some ⟨g, 0, none⟩))) (h3 : w.cell? ⟨b3, 0, none⟩ = some v)
    (hc0 : w.cell? ⟨g, 0, none⟩ = some (.pointer (some ⟨p.d, 0, none⟩))) (hgp : ¬ p.mem g) (hb2 : ¬ p.mem b2) (hb3 : ¬ p.mem b3) (hn2 : n ≤ 160)
    (hS : Chs (fun k => ¬ p.mem k) w v l) (hok : okC n l) : Doer (fun _ => True) 980000 N p w (.func (.func 101) #[] #[.pointer (some ⟨b2, 0, none⟩), .pointer (some ⟨b3, 0, none⟩)]) (stW l) := by
  refine ⟨_, _, _, rfl, enters_of Tryz.func101 (by kernel_rfl) rfl, fun W D hk hD hN' _ h0 h1 => ?_⟩
  rw [show (#[] ++ #[Value.pointer (some ⟨b2, 0, none⟩), Value.pointer (some ⟨b3, 0, none⟩)] : Array Value) = #[Value.pointer (some ⟨b2, 0, none⟩), Value.pointer (some ⟨b3, 0, none⟩)] by simp]
  exact commit3_any b2 b3 g n p D v l W (hk.cell h2 hb2) (hk.cell h3 hb3) (hk.cell hc0 hgp) hgp hD h0 (by omega) (by omega) hn2 (hS.kept hk (fun _ h => h)) hok
theorem mark_doer0 (g N : Nat) (p : Dp) (D : Dv) (w : World) (hc0 : w.cell? ⟨g, 0, none⟩ = some (.pointer (some ⟨p.d, 0, none⟩))) (hgp : ¬ p.mem g) (hu : ∀ k, D.u k = none) :
    Doer (fun D' => D' = D) 980000 N p w (.func (.func 94) #[.pointer (some ⟨g, 0, none⟩)] #[]) [] := by
  refine ⟨_, _, _, rfl, enters_of Tryz.func94 (by kernel_rfl) rfl, fun W D' hk hD hN' he h0 h1 => ?_⟩
  rw [show (#[Value.pointer (some ⟨g, 0, none⟩)] ++ #[] : Array Value) = #[Value.pointer (some ⟨g, 0, none⟩)] by simp]
  subst he
  exact (settleMark_any g p D' W (hk.cell hc0 hgp) hD hu).mono (fun e w' h => ⟨h.1, hD.keptN h.2, h.2.mono (fun _ _ h => h.elim)⟩)

set_option maxHeartbeats 400000 in
theorem commit_nil (v : Value) (l : List Chg) (S : Nat → Prop) (w : World) (hS : Chs S w v l) : Calls Tryz.prog 75 #[.pointer none, v] w fun e w' => e = .returned (.int .i64 1) ∧ Kp none' w w' := by
  obtain ⟨a, c, rfl⟩ := hS.shape
  go_enter Tryz.func75, Tryz.ntmps75
  go_wp2
  go_ret
  exact ⟨rfl, (Kp.alloc none' w _).then (Kp.alloc none' _ _)⟩
/-- The two variables that Commit and settle make of their parameters. -/
theorem two_vars (w : World) (x y : Value) (t u : TypeId) : Kp none' w ((w.alloc (.cells #[x] t)).alloc (.cells #[y] u)) ∧ ((w.alloc (.cells #[x] t)).alloc (.cells #[y] u)).cell? ⟨w.heap.size, 0, none⟩ = some x ∧
    ((w.alloc (.cells #[x] t)).alloc (.cells #[y] u)).cell? ⟨w.heap.size + 1, 0, none⟩ = some y := by
  refine ⟨(Kp.alloc none' w _).then (Kp.alloc none' _ _), (Kp.alloc none' _ _).cell (by rw [cell_of_row _ _ _ _ _ _ (heap_alloc_new w _)]; rfl) (fun h => h), ?_⟩
  have := heap_alloc_new (w.alloc (.cells #[x] t)) (.cells #[y] u)
  rw [show (w.alloc (.cells #[x] t)).heap.size = w.heap.size + 1 by simp] at this
  rw [cell_of_row _ _ _ _ _ _ this]
  rfl
set_option maxRecDepth 100000 in
set_option maxHeartbeats 800000 in
/-- Nothing is done. -/
theorem commit_no (g n : Nat) (p : Dp) (c : Int) (bv : Value) (bl : List Chg) (v : Value) (l : List Chg) (S : Nat → Prop) (w : World) (hP : Pag w g p n c bv bl) (hbl : bl.length ≤ 31) (hS : Chs S w v l) (hr : i64s (l.map Chg.page)) (h : refE n bl l ≠ 0 ∨ l = []) :
    Calls Tryz.prog 75 #[.pointer (some ⟨g, 0, none⟩), v] w fun e w' => e = .returned (.int .i64 (refE n bl l)) ∧ Kp none' w w' := by
  obtain ⟨ka, c2, c3⟩ := two_vars w (.pointer (some ⟨g, 0, none⟩)) v 79 73
  obtain ⟨wa, Ha⟩ : ∃ wa, Hid ((w.alloc (.cells #[.pointer (some ⟨g, 0, none⟩)] 79)).alloc (.cells #[v] 73) = wa) := ⟨_, rfl⟩
  rw [Ha.out] at ka c2 c3
  have hrf := refusal_any g n p c bv bl v l S wa (hP.keptN ka) hbl (hS.keptN ka) hr
  obtain ⟨E, HE⟩ : ∃ E, Hid (refE n bl l = E) := ⟨_, rfl⟩
  rw [HE.out] at hrf h ⊢
  obtain ⟨a, cc, rfl⟩ := hS.shape
  by_cases hE : E = 0
  · have hE' : (E != 0) = false := by simp [hE]
    have hl : l = [] := h.resolve_left (fun h => h hE)
    have hl0 : ((l.length : Int) == 0) = true := by simp [hl]
    clear h hl
    go_enter Tryz.func75, Tryz.ntmps75
    go_upto_region 1 with fail
    rw [Ha.out]
    generalize w.heap.size = b2 at *
    go_upto_region 4 with (first
      | (go_at_call 91; refine hrf.mono ?_; rintro e w1 ⟨rfl, hk1⟩)
      | fail)
    have d2 := hk1.cell c2 (fun h => h)
    have d3 := hk1.cell c3 (fun h => h)
    go_wp2
    go_ret
    exact ⟨by first | rfl | (rw [hE]; rfl), ka.then hk1⟩
  · have hE' : (E != 0) = true := by simp [hE]
    go_enter Tryz.func75, Tryz.ntmps75
    go_upto_region 1 with fail
    rw [Ha.out]
    generalize w.heap.size = b2 at *
    go_upto_region 4 with (first
      | (go_at_call 91; refine hrf.mono ?_; rintro e w1 ⟨rfl, hk1⟩)
      | fail)
    go_wp2
    go_ret
    exact ⟨rfl, ka.then hk1⟩
theorem okC_ref {n : Nat} {l : List Chg} (hn : n ≤ 160) (h : okC n l) : refE n [] l = 0 := by
  have h1 : ¬ 31 < l.length := by have := h.m; omega
  have h2 : allB n (l.map Chg.page) = true := by
    unfold allB
    rw [List.all_eq_true]
    intro z hz
    obtain ⟨c, hc, rfl⟩ := List.mem_map.1 hz
    have := h.p c hc
    simp [hasB]
    omega
  unfold refE
  rw [if_neg (by simp), if_neg h1, if_pos h2, if_pos h.d, okC_wE hn h]
theorem oldD_pages (D : Dv) (l : List Chg) : (oldD D l).map Chg.page = l.map Chg.page := by
  unfold oldD
  rw [List.map_map]
  rfl
theorem oldD_ok {w : World} {p : Dp} {D : Dv} {n : Nat} {l : List Chg} (hD : Dev w p D) (hn : 126 + 4 * n ≤ D.n) (h : okC n l) : okC n (oldD D l) := by
  refine ⟨fun c hc => ?_, fun c hc => ?_, by rw [oldD_pages]; exact h.u, by rw [oldD_len]; exact h.m⟩
  · obtain ⟨d, hd, rfl⟩ := List.mem_map.1 hc
    exact h.p d hd
  · obtain ⟨d, hd, rfl⟩ := List.mem_map.1 hc
    have := h.p d hd
    exact catB_four D _ (fun j hj => hD.atl _ (by unfold placeN; omega))
/-- A pager's cell is written. -/
theorem Pag.setC {w : World} {g : Nat} {p : Dp} {n : Nat} {c : Int} {bv : Value} {bl : List Chg} (h : Pag w g p n c bv bl) (x : Int) : Pag (w.setCell ⟨g, 2, none⟩ (.int .i64 x)) g p n x bv bl := by
  have hk : Kp (only g) w (w.setCell ⟨g, 2, none⟩ (.int .i64 x)) := Kp.setCell _ _ _ _ rfl
  have ne : ∀ j, j ≠ 2 → (⟨g, 2, none⟩ : Addr) ≠ ⟨g, j, none⟩ := fun j hj he => hj (congrArg Addr.off he).symm
  exact ⟨by rw [World.cell?_setCell_other (h := ne 0 (by omega))]; exact h.c0, by rw [World.cell?_setCell_other (h := ne 1 (by omega))]; exact h.c1, World.cell?_setCell_same _ _ _ h.c2,
    by rw [World.cell?_setCell_other (h := ne 3 (by omega))]; exact h.c3, fun j => by rw [World.frozen?_setCell]; exact h.fr j, h.bs.kept hk (fun k h => h.2), h.gp⟩
theorem Pag.setB {w : World} {g : Nat} {p : Dp} {n : Nat} {c : Int} {bv : Value} {bl : List Chg} (h : Pag w g p n c bv bl) {v : Value} {l : List Chg} (hv : Chs (fun k => ¬ p.mem k ∧ k ≠ g) w v l) : Pag (w.setCell ⟨g, 3, none⟩ v) g p n c v l := by
  have hk : Kp (only g) w (w.setCell ⟨g, 3, none⟩ v) := Kp.setCell _ _ _ _ rfl
  have ne : ∀ j, j ≠ 3 → (⟨g, 3, none⟩ : Addr) ≠ ⟨g, j, none⟩ := fun j hj he => hj (congrArg Addr.off he).symm
  exact ⟨by rw [World.cell?_setCell_other (h := ne 0 (by omega))]; exact h.c0, by rw [World.cell?_setCell_other (h := ne 1 (by omega))]; exact h.c1, by rw [World.cell?_setCell_other (h := ne 2 (by omega))]; exact h.c2,
    World.cell?_setCell_same _ _ _ h.c3, fun j => by rw [World.frozen?_setCell]; exact h.fr j, hv.kept hk (fun k h => h.2), h.gp⟩
set_option maxRecDepth 100000 in
set_option maxHeartbeats 1600000 in
theorem commit_ok (g n : Nat) (p : Dp) (D : Dv) (c : Int) (bv : Value) (v : Value) (l : List Chg) (w : World) (hP : Pag w g p n c bv []) (hD : Dev w p D) (h0 : 0 ≤ D.c) (h1 : D.c ≤ 900000) (hn : 126 + 4 * n ≤ D.n) (hn2 : n ≤ 160) (hu : ∀ k, D.u k = none)
    (hS : Chs (fun k => ¬ p.mem k) w v l) (hok : okC n l) (hne : l ≠ []) (hc0 : 0 ≤ c) (hc1 : c ≤ 1000000) :
    Calls Tryz.prog 75 #[.pointer (some ⟨g, 0, none⟩), v] w fun e w' => e = .returned (.int .i64 (D.goE (cmW (oldD D l) l))) ∧ Dev w' p (D.go (cmW (oldD D l) l)) ∧ Kp (fun k => p.mem k ∨ k = g) w w' ∧
      (D.goE (cmW (oldD D l) l) = 0 → Pag w' g p n (c + 1) bv []) ∧ (D.goE (cmW (oldD D l) l) ≠ 0 → ∃ u, Pag w' g p n c u (oldD D l)) := by
  have hgp := hP.gp
  have hlt0 := hD.lt
  have hgl := hP.lt
  have hm := hok.m
  obtain ⟨ka, c2, c3⟩ := two_vars w (.pointer (some ⟨g, 0, none⟩)) v 79 73
  obtain ⟨wa, Ha⟩ : ∃ wa, Hid ((w.alloc (.cells #[.pointer (some ⟨g, 0, none⟩)] 79)).alloc (.cells #[v] 73) = wa) := ⟨_, rfl⟩
  rw [Ha.out] at ka c2 c3
  have hr : i64s (l.map Chg.page) := fun z hz => by
    obtain ⟨x, hx, rfl⟩ := List.mem_map.1 hz
    have := hok.p x hx
    omega
  have hrf := refusal_any g n p c bv [] v l _ wa (hP.keptN ka) (by simp) (hS.keptN ka) hr
  rw [okC_ref hn2 hok] at hrf
  have hl0 : ((l.length : Int) == 0) = false := by
    have : l.length ≠ 0 := fun e => hne (List.eq_nil_of_length_eq_zero e)
    simp
    exact hne
  obtain ⟨a, cc, hv⟩ := hS.shape
  subst hv
  have hwa := ka.size
  have hb2 : ¬ p.mem w.heap.size := fun h => by have := hlt0 _ h; omega
  have hb3 : ¬ p.mem (w.heap.size + 1) := fun h => by have := hlt0 _ h; omega
  have HNE := hide hne
  clear hne
  have hb2g : w.heap.size ≠ g := by omega
  have hb2w : w.heap.size < wa.heap.size := lt_of_cell c2
  go_enter Tryz.func75, Tryz.ntmps75
  go_upto_region 1 with fail
  rw [Ha.out]
  obtain ⟨b2, HB2⟩ : ∃ b2, Hid (w.heap.size = b2) := ⟨_, rfl⟩
  rw [HB2.out] at c2 c3 hb2 hb3 hb2g hb2w hlt0 hgl ⊢
  go_upto_region 4 with (first
    | (go_at_call 91; refine hrf.mono ?_; rintro e w1 ⟨rfl, hk1⟩)
    | fail)
  clear hrf
  have d2 := hk1.cell c2 (fun h => h)
  have d3 := hk1.cell c3 (fun h => h)
  have hk01 := ka.then hk1
  have him := images_any g n p D _ l w1 (hk01.cell hP.c0 (fun h => h)) (hD.keptN hk01) hn hn2 (hS.keptN hk01) hok.p hm
  go_upto_region 6 with fail
  go_upto_region 7 with (first
    | (go_at_call 92; refine him.mono ?_; rintro e w2 ⟨u, rfl, hO, hk2⟩; obtain ⟨au, cu, rfl⟩ := hO.chs.shape; rw [oldD_len])
    | fail)
  clear him
  have hkB := Kp.alloc none' w2 (.cells #[.slice au l.length cu] 73)
  have cB : (w2.alloc (.cells #[.slice au l.length cu] 73)).cell? ⟨w2.heap.size, 0, none⟩ = some (.slice au l.length cu) := by rw [cell_of_row _ _ _ _ _ _ (heap_alloc_new w2 _)]; rfl
  rw [oldD_len] at hO
  obtain ⟨w3, H3⟩ : ∃ w3, Hid (w2.alloc (.cells #[.slice au l.length cu] 73) = w3) := ⟨_, rfl⟩
  rw [H3.out] at hkB cB ⊢
  have hk13 : Kp none' w1 w3 := hk2.then hkB
  have hk03 : Kp none' w w3 := hk01.then hk13
  have hO3 := hO.keptN hkB
  have hw12 := hk2.size
  have hw01 := hk01.size
  have hCo : Chs (fun k => ¬ p.mem k ∧ k ≠ g) w3 (.slice au l.length cu) (oldD D l) := hO3.chs.mono (fun j _ hj => ⟨fun hm => by have := hlt0 j hm; have := HB2.out; omega, by have := HB2.out; omega⟩)
  have hb6 : ¬ p.mem w2.heap.size := fun h => by have := hlt0 _ h; have := HB2.out; omega
  have hP3 := hP.keptN hk03
  have hD3 := hD.keptN hk03
  have c2' := hk13.cell d2 (fun h => h)
  have c3' := hk13.cell d3 (fun h => h)
  have c0' := hP3.c0
  have hS3 := hS.keptN hk03
  clear c2 c3 d2 d3 hk1 hk2 hkB hO hO3 hk01 hk13 hP hD hS ka hwa hw12 hw01
  generalize w2.heap.size = b6 at *
  have c2 := c2'
  have t2 : w3.drew.cell? ⟨b2, 0, none⟩ = some (.pointer (some ⟨g, 0, none⟩)) := c2'
  have t0 : w3.drew.cell? ⟨g, 0, none⟩ = some (.pointer (some ⟨p.d, 0, none⟩)) := c0'
  have hoo := oldD_ok hD3 hn hok
  have hlen := cmW_len (oldD D l) l
  rw [oldD_len] at hlen
  have HT : Hid (Calls Tryz.prog 93 #[.slice (some ⟨w3.heap.size, 0, none⟩) 6 6] (w3.alloc (.cells #[.func (.func 94) #[.pointer (some ⟨g, 0, none⟩)] #[], .func (.func 95) #[] #[.pointer (some ⟨b2, 0, none⟩), .pointer (some ⟨b6, 0, none⟩)],
      .func (.func 97) #[.pointer (some ⟨p.d, 0, none⟩)] #[], .func (.func 98) #[] #[.pointer (some ⟨b2, 0, none⟩)], .func (.func 97) #[.pointer (some ⟨p.d, 0, none⟩)] #[],
      .func (.func 101) #[] #[.pointer (some ⟨b2, 0, none⟩), .pointer (some ⟨b2 + 1, 0, none⟩)]] 59)).drew
      fun e w' => e = .returned (.int .i64 (D.goE (cmW (oldD D l) l))) ∧ Dev w' p (D.go (cmW (oldD D l) l)) ∧ Kp p.mem w3 w') := by
    exact turn_new 980000 D.n p D _ [_, _, _, _, _] [] [jrW (oldD D l), [.sy], [.wr 0 (markL true)], [.sy], stW l] (cmW (oldD D l) l) w3 _ hD3 rfl h0 (by simp [cmW]) (by omega) (by simp)
      (mark_doer0 g D.n p D w3 c0' hgp hu)
      (.cons (commit1_doer b2 b6 g n D.n hn p _ (oldD D l) w3 c2' cB c0' hgp hb2 hb6 hn2 (hCo.mono (fun _ _ h => h.1)) hoo) (.cons (sync_doer 980000 _ (by omega) p w3)
        (.cons (mark_doer (enters_of Tryz.func98 (by kernel_rfl) rfl) commit2_any 980000 (by omega) b2 g D.n (by omega) p w3 c2' c0' hgp hb2) (.cons (sync_doer 980000 _ (by omega) p w3)
          (.cons (commit3_doer b2 (b2 + 1) g n D.n hn p _ l w3 c2' c3' c0' hgp hb2 hb3 hn2 hS3 hok) .nil)))))
  obtain ⟨E, HE⟩ : ∃ E, Hid (D.goE (cmW (oldD D l) l) = E) := ⟨_, rfl⟩
  obtain ⟨F, HF⟩ : ∃ F, Hid (D.go (cmW (oldD D l) l) = F) := ⟨_, rfl⟩
  rw [HE.out, HF.out] at HT
  refine wp_region_held_drew (S := fun W => W.cell? ⟨b2, 0, none⟩ = some (.pointer (some ⟨g, 0, none⟩)) ∧ W.cell? ⟨g, 0, none⟩ = some (.pointer (some ⟨p.d, 0, none⟩))) (by kernel_rfl) ⟨t2, t0⟩ (fun hHeld => ?_)
  refine take_at (i := 0) (d := 24) (v := ?_) rfl rfl (by kernel_rfl) (by kernel_rfl) (by kernel_rfl) (fun _ _ _ h => h) (Or.inl ⟨by rfl, ?_⟩) (by assumption) ?_
  rotate_left
  · intro W hSW
    try dsimp only at hSW
    go_simp
    try with_reducible rfl
  simp only [Act.put, List.setIfInBounds_toArray, List.set_cons_zero, List.set_cons_succ]
  refine take_at (i := 1) (d := 25) (v := ?_) rfl rfl (by kernel_rfl) (by kernel_rfl) (by kernel_rfl) (fun _ _ _ h => h) (Or.inl ⟨by rfl, ?_⟩) (by assumption) ?_
  rotate_left
  · intro W hSW
    try dsimp only at hSW
    go_simp
    try with_reducible rfl
  simp only [Act.put, List.setIfInBounds_toArray, List.set_cons_zero, List.set_cons_succ]
  refine take_at (i := 2) (d := 26) (v := ?_) rfl rfl (by kernel_rfl) (by kernel_rfl) (by kernel_rfl) (fun _ _ _ h => h) (Or.inl ⟨by rfl, ?_⟩) (by assumption) ?_
  rotate_left
  · intro W hSW
    try dsimp only at hSW
    go_simp
    try with_reducible rfl
  simp only [Act.put, List.setIfInBounds_toArray, List.set_cons_zero, List.set_cons_succ]
  refine take_at (i := 3) (d := 27) (v := ?_) rfl rfl (by kernel_rfl) (by kernel_rfl) (by kernel_rfl) (fun _ _ _ h => h) (Or.inl ⟨by rfl, ?_⟩) (by assumption) ?_
  rotate_left
  · intro W hSW
    try dsimp only at hSW
    go_simp
    try with_reducible rfl
  simp only [Act.put, List.setIfInBounds_toArray, List.set_cons_zero, List.set_cons_succ]
  refine take_at (i := 4) (d := 28) (v := ?_) rfl rfl (by kernel_rfl) (by kernel_rfl) (by kernel_rfl) (fun _ _ _ h => h) (Or.inl ⟨by rfl, ?_⟩) (by assumption) ?_
  rotate_left
  · intro W hSW
    try dsimp only at hSW
    go_simp
    try with_reducible rfl
  simp only [Act.put, List.setIfInBounds_toArray, List.set_cons_zero, List.set_cons_succ]
  refine take_at (i := 5) (d := 29) (v := ?_) rfl rfl (by kernel_rfl) (by kernel_rfl) (by kernel_rfl) (fun _ _ _ h => h) (Or.inl ⟨by rfl, ?_⟩) (by assumption) ?_
  rotate_left
  · intro W hSW
    try dsimp only at hSW
    go_simp
    try with_reducible rfl
  simp only [Act.put, List.setIfInBounds_toArray, List.set_cons_zero, List.set_cons_succ]
  refine take_at (i := 6) (d := 30) (v := ?_) rfl rfl (by kernel_rfl) (by kernel_rfl) (by kernel_rfl) (fun _ _ _ h => h) (Or.inl ⟨by rfl, ?_⟩) (by assumption) ?_
  rotate_left
  · intro W hSW
    try dsimp only at hSW
    go_simp
    try with_reducible rfl
  simp only [Act.put, List.setIfInBounds_toArray, List.set_cons_zero, List.set_cons_succ]
  refine take_at (i := 7) (d := 31) (v := ?_) rfl rfl (by kernel_rfl) (by kernel_rfl) (by kernel_rfl) (fun _ _ _ h => h) (Or.inl ⟨by rfl, ?_⟩) (by assumption) ?_
  rotate_left
  · intro W hSW
    try dsimp only at hSW
    go_simp
    try with_reducible rfl
  simp only [Act.put, List.setIfInBounds_toArray, List.set_cons_zero, List.set_cons_succ]
  refine take_at (i := 8) (d := 32) (v := ?_) rfl rfl (by kernel_rfl) (by kernel_rfl) (by kernel_rfl) (fun _ _ _ h => h) (Or.inl ⟨by rfl, ?_⟩) (by assumption) ?_
  rotate_left
  · intro W hSW
    try dsimp only at hSW
    go_simp
    try with_reducible rfl
  simp only [Act.put, List.setIfInBounds_toArray, List.set_cons_zero, List.set_cons_succ]
  refine take_at (i := 9) (d := 33) (v := ?_) rfl rfl (by kernel_rfl) (by kernel_rfl) (by kernel_rfl) (fun _ _ _ h => h) (Or.inl ⟨by rfl, ?_⟩) (by assumption) ?_
  rotate_left
  · intro W hSW
    try dsimp only at hSW
    go_simp
    try with_reducible rfl
  simp only [Act.put, List.setIfInBounds_toArray, List.set_cons_zero, List.set_cons_succ]
  refine take_at (i := 10) (d := 34) (v := ?_) rfl rfl (by kernel_rfl) (by kernel_rfl) (by kernel_rfl) (fun _ _ _ h => h) (Or.inl ⟨by rfl, ?_⟩) (by assumption) ?_
  rotate_left
  · intro W hSW
    try dsimp only at hSW
    go_simp
    try with_reducible rfl
  simp only [Act.put, List.setIfInBounds_toArray, List.set_cons_zero, List.set_cons_succ]
  refine take_at (i := 11) (d := 35) (v := ?_) rfl rfl (by kernel_rfl) (by kernel_rfl) (by kernel_rfl) (fun _ _ _ h => h) (Or.inl ⟨by rfl, ?_⟩) (by assumption) ?_
  rotate_left
  · intro W hSW
    try dsimp only at hSW
    go_simp
    try with_reducible rfl
  simp only [Act.put, List.setIfInBounds_toArray, List.set_cons_zero, List.set_cons_succ]
  refine take_at (i := 12) (d := 36) (v := ?_) rfl rfl (by kernel_rfl) (by kernel_rfl) (by kernel_rfl) (fun _ _ _ h => h) (Or.inl ⟨by rfl, ?_⟩) (by assumption) ?_
  rotate_left
  · intro W hSW
    try dsimp only at hSW
    go_simp
    try with_reducible rfl
  simp only [Act.put, List.setIfInBounds_toArray, List.set_cons_zero, List.set_cons_succ]
  refine take_at (i := 13) (d := 37) (v := ?_) rfl rfl (by kernel_rfl) (by kernel_rfl) (by kernel_rfl) (fun _ _ _ h => h) (Or.inl ⟨by rfl, ?_⟩) (by assumption) ?_
  rotate_left
  · intro W hSW
    try dsimp only at hSW
    go_simp
    try with_reducible rfl
  simp only [Act.put, List.setIfInBounds_toArray, List.set_cons_zero, List.set_cons_succ]
  refine take_at (i := 14) (d := 38) (v := ?_) rfl rfl (by kernel_rfl) (by kernel_rfl) (by kernel_rfl) (fun _ _ _ h => h) (Or.inl ⟨by rfl, ?_⟩) (by assumption) ?_
  rotate_left
  · intro W hSW
    try dsimp only at hSW
    go_simp
    try with_reducible rfl
  simp only [Act.put, List.setIfInBounds_toArray, List.set_cons_zero, List.set_cons_succ]
  refine wpAnyH_ready (rs := [15]) (by kernel_rfl) (by simp) ?_
  refine AllReadyH.cons rfl (fun K hK => ?_) AllReadyH.nil
  go_simp
  refine hK.out _ _ ⟨(Kp.alloc none' w3 _).cell c2 (fun h => h), (Kp.alloc none' w3 _).cell t0 (fun h => h)⟩ (fun hHeld => ?_)
  clear hK K
  refine wpAnyH_ready (rs := [16]) (by kernel_rfl) (by simp) ?_
  refine AllReadyH.cons rfl (fun K hK => ?_) AllReadyH.nil
  go_simp
  go_wp2_with (go_at_call 93; refine HT.out.mono ?_; rintro e w4 ⟨rfl, hD4, hk4⟩)
  refine hK.out _ _ (⟨hk4.cell c2 hb2, hk4.cell t0 hgp⟩) (fun hHeld => ?_)
  clear hK K
  refine take_at (i := 17) (d := 7) (v := ?_) rfl rfl (by kernel_rfl) (by kernel_rfl) (by kernel_rfl) (fun _ _ _ h => h) (Or.inl ⟨by rfl, ?_⟩) (by assumption) ?_
  rotate_left
  · intro W hSW
    try dsimp only at hSW
    go_simp
    try with_reducible rfl
  simp only [Act.put, List.setIfInBounds_toArray, List.set_cons_zero, List.set_cons_succ]
  refine wpAnyH_done (by kernel_rfl) ?_ _
  have hP4 := hP3.kept hk4
  have e2 := hk4.cell c2 hb2
  have e6 := hk4.cell cB hb6
  have f2 := hP4.c2
  have f3 := hP4.c3
  have z2 := hP4.fr 2
  have z3 := hP4.fr 3
  have HK4 := hide (hk03.nThen (S := fun k => p.mem k ∨ k = g) (hk4.mono (fun _ _ h => .inl h)))
  have HCo := hide (hCo.kept hk4 (fun _ h => h.1))
  have HP4 := hide hP4
  clear HT t2 t0 c2' c3' c0' hS3 hCo hP3 hP4 hD3 hk03 hk4
  by_cases hE : E = 0
  · have hE' : (E != 0) = false := by simp [hE]
    have HW : Hid (wrap64 (c + 1) = c + 1) := by show _ = _; unfold wrap64; omega
    go_wp2
    go_ret
    refine ⟨by rw [HE.out, hE]; rfl, by rw [HF.out]; exact hD4.kept (Kp.setCell (S := only g) _ _ _ _ rfl) (fun k hk he => hgp (by unfold only at he; rw [← he]; exact hk)), HK4.out.then (Kp.setCell _ _ _ _ (.inr rfl)), fun _ => ?_, fun h => absurd (by rw [HE.out]; exact hE) h⟩
    have := HP4.out.setC (c + 1)
    first | exact this | (rw [← HW.out] at this ⊢; exact this)
  · have hE' : (E != 0) = true := by simp [hE]
    go_wp2
    go_ret
    exact ⟨by rw [HE.out]; rfl, by rw [HF.out]; exact hD4.kept (Kp.setCell (S := only g) _ _ _ _ rfl) (fun k hk he => hgp (by unfold only at he; rw [← he]; exact hk)), HK4.out.then (Kp.setCell _ _ _ _ (.inr rfl)), fun h => absurd (by rw [← HE.out]; exact h) hE, fun _ => ⟨_, HP4.out.setB HCo.out⟩⟩

end Go.Proofs.YtmnedhlgplkfhaaGreat

namespace Go.Proofs.YtmnedhlgplkfhaaGreat
open Go.RowKit
set_option linter.unusedVariables false

/-- A page of one byte. -/
def fillB (c : UInt8) : ByteArray := ⟨(List.replicate 256 c).toArray⟩
theorem fillB_size (c : UInt8) : (fillB c).size = 256 := by
  show (List.replicate 256 c).toArray.size = 256
  rw [List.size_toArray, List.length_replicate]
theorem make_page (w : World) : ∃ wa, (Instr.makeSlice 98 (.int .i64 256) (.int .i64 256)).run Tryz.prog w = .ok (.slice (some ⟨w.heap.size, 0, none⟩) 256 256) wa ∧ Own 5 wa w.heap.size (.slice (some ⟨w.heap.size, 0, none⟩) 256 256) (List.replicate 256 0) ∧ Kp none' w wa := by
  obtain ⟨i0, hi, hz0, hz1, hz2⟩ := info_parts infoU8
  obtain ⟨wa, hmk, hOa, hga⟩ := run_make_full (P := Tryz.prog) w w.heap.size 98 5 i0 _ 1 Tryz.underlying98 hi hz0 hz1 .i64 .i64 256 (by rw [hz2]; omega) (by unfold maxLen; omega) (Nat.le_refl _)
  refine ⟨wa, hmk, ?_, Kp.ofN hga _⟩
  have e : (madeCells (Value.int .u8 0).cells (256 * 1)).toList = bcs (List.replicate 256 0) := by
    show (madeCells #[Value.int .u8 0] (256 * 1)).toList = _
    rw [toList_madeCells_one]
    unfold bcs
    rw [List.map_replicate]
    rfl
  unfold Own
  rw [List.length_replicate, ← e]
  exact hOa
set_option maxRecDepth 100000 in
set_option maxHeartbeats 400000 in
theorem zero_any (w : World) : Calls Tryz.prog 62 #[] w fun e w' => e = .returned (.string (fillB 0)) ∧ Kp none' w w' := by
  obtain ⟨wa, hmk, hO, hka⟩ := make_page w
  obtain ⟨g, HG⟩ : ∃ g, Hid (w.heap.size = g) := ⟨_, rfl⟩
  rw [HG.out] at hmk hO
  have hcv := run_convert_own (P := Tryz.prog) wa 98 9 5 Tryz.underlying98 Tryz.underlying5 Tryz.underlying9 hO
  obtain ⟨Z, HZ⟩ : ∃ Z, Hid (fillB 0 = Z) := ⟨_, rfl⟩
  rw [show (⟨(List.replicate 256 (0 : UInt8)).toArray⟩ : ByteArray) = fillB 0 from rfl, HZ.out] at hcv
  rw [HZ.out]
  clear hO
  go_enter Tryz.func62, Tryz.ntmps62
  go_wp2_with (at_make; refine wpList_make_at rfl (.const (.int .i64 256)) (.const (.int .i64 256)) 98 rfl _ _ rfl rfl hmk ?_)
  go_ret
  exact ⟨rfl, hka⟩
theorem set_nextU (c : UInt8) (k m : Nat) : (List.replicate k c ++ List.replicate (m + 1) 0).set k c = List.replicate (k + 1) c ++ List.replicate m 0 := by
  have hl : (List.replicate k c).length = k := List.length_replicate
  rw [List.set_append_right _ _ (by omega), hl, Nat.sub_self, List.replicate_succ, List.set_cons_zero, List.replicate_succ' , List.append_assoc]
  rfl
/-- How many pages. -/
def pagesN (n : Int) : Nat := 1 + (n % 18446744073709551616 % 40).toNat
theorem pagesN_le (n : Int) : 1 ≤ pagesN n ∧ pagesN n ≤ 40 := by unfold pagesN; omega
/-- How many calls a commit takes. -/
def callsN (n : Nat) : Nat := if n = 0 then 0 else 8 * n + 7
/-- Texts that lie in blocks of S. -/
def Txs (S : Nat → Prop) (w : World) (v : Value) (Q : List ByteArray) : Prop :=
  ∃ a c, v = .slice a Q.length c ∧ Q.length ≤ c ∧ c ≤ maxLen ∧ ∀ i (h : i < Q.length), ∃ b off, a = some ⟨b, off, none⟩ ∧ S b ∧ b < w.heap.size ∧ w.cell? ⟨b, off + i, none⟩ = some (.string Q[i])
theorem Txs.kept {S T : Nat → Prop} {w w' : World} {v : Value} {l : List ByteArray} (h : Txs S w v l) (hk : Kp T w w') (hS : ∀ k, S k → ¬ T k) : Txs S w' v l := by
  obtain ⟨a, c, rfl, h1, h2, h3⟩ := h
  refine ⟨a, c, rfl, h1, h2, fun i hi => ?_⟩
  obtain ⟨b, off, rfl, hb, hl, c0⟩ := h3 i hi
  exact ⟨b, off, rfl, hb, Nat.lt_of_lt_of_le hl hk.size, hk.cell c0 (hS b hb)⟩
theorem Txs.mono {S T : Nat → Prop} {w : World} {v : Value} {l : List ByteArray} (h : Txs S w v l) (hS : ∀ k, k < w.heap.size → S k → T k) : Txs T w v l := by
  obtain ⟨a, c, rfl, h1, h2, h3⟩ := h
  refine ⟨a, c, rfl, h1, h2, fun i hi => ?_⟩
  obtain ⟨b, off, rfl, hb, hl, c0⟩ := h3 i hi
  exact ⟨b, off, rfl, hS b hl hb, hl, c0⟩
theorem Ow.txs {w : World} {base : Nat} {v : Value} {l : List ByteArray} (h : Ow Value.string 9 w base v l) : Txs (fun k => base ≤ k) w v l := by
  have h' := h
  rcases h.2 with ⟨rfl, h0⟩ | ⟨g, cap, cur, rfl, hb, hg, h1, h2, _⟩
  · have : l = [] := List.eq_nil_of_length_eq_zero h0
    subst this
    exact ⟨none, 0, rfl, Nat.le_refl _, Nat.zero_le _, fun i h => absurd h (by simp)⟩
  · refine ⟨some ⟨g, 0, none⟩, cap, rfl, h1, h2, fun j hj => ⟨g, 0, rfl, hb, (Array.getElem?_eq_some_iff.1 hg).1, ?_⟩⟩
    have hc := World.ownsRow.cellAt (g := g) (cap := cap) h' j (by omega)
    rw [Nat.zero_add, hc]
    simp [hj]
/-- The document's pages, in blocks of S. -/
structure Pgl (S : Nat → Prop) (w : World) (r : Nat) (Q : List ByteArray) : Prop where
  i : ∃ lv, w.cell? ⟨r, 0, none⟩ = some lv ∧ Txs S w lv Q
  r : S r
theorem Pgl.kept {S T : Nat → Prop} {w w' : World} {r : Nat} {Q : List ByteArray} (h : Pgl S w r Q) (hk : Kp T w w') (hS : ∀ k, S k → ¬ T k) : Pgl S w' r Q := by
  obtain ⟨lv, h1, h2⟩ := h.i
  exact ⟨⟨lv, hk.cell h1 (hS r h.r), h2.kept hk hS⟩, h.r⟩
theorem Pgl.keptN {S : Nat → Prop} {w w' : World} {r : Nat} {Q : List ByteArray} (h : Pgl S w r Q) (hk : Kp none' w w') : Pgl S w' r Q := h.kept hk (fun _ _ h => h)
theorem Pgl.mono {S T : Nat → Prop} {w : World} {r : Nat} {Q : List ByteArray} (h : Pgl S w r Q) (hS : ∀ k, k < w.heap.size → S k → T k) : Pgl T w r Q := by
  obtain ⟨lv, h1, h2⟩ := h.i
  exact ⟨⟨lv, h1, h2.mono hS⟩, hS r (lt_of_cell h1) h.r⟩

theorem bytes_eq {x y : ByteArray} (h : x.toList = y.toList) : x = y := by
  rw [ByteArray.toList_eq, ByteArray.toList_eq] at h
  exact ByteArray.ext (Array.toList_inj.1 h)
/-- Has a pager just these pages? -/
def sameB (D : Dv) (bl : List Chg) (Q : List ByteArray) : Bool := decide (∀ i (h : i < Q.length), rdP D bl i = Q[i])
end Go.Proofs.YtmnedhlgplkfhaaGreat

namespace Go.Proofs.YtmnedhlgplkfhaaGreat
open Go.RowKit
set_option linter.unusedVariables false

theorem pstep_append {P : Program} {w : World} {ops : Array Oper} {o : Oper} {a : Act} {K : Act → World → Prop} {Q : Exit → Act → World → Prop} {E : Prop} (hgd : o.guard = none) (s x : Operand) (t tx : TypeId)
    (ho : o.op = .call { callee := .builtin .append, args := #[s, x], argTypes := #[t, tx] }) (base : Nat) (e : TypeId) (i : TypeInfo) (z : Value) (sz by_ : Nat) (ht : P.underlying t = some (.slice e)) (hi : P.info? e = some i) (hz : i.zero = some z) (hzc : z.cells.size = sz)
    (hsize : i.size = sz) (hby : i.bytes = by_) (v : Value) (n : Nat) (cs : List Value) (hs : a.eval s = v) (hown : w.ownsRow base e sz v n cs) (xv : Value) (m : Nat) (ds : List Value) (hx : a.eval x = xv) (hsrc : Src P sz tx xv m ds w) (hm : 0 < n + m)
    (hb : (n + m) * by_ ≤ 140737488355328) (hml : n + m ≤ maxLen) (hbase : base ≤ w.heap.size)
    (h : ∀ v' w', w'.ownsRow base e sz v' (n + m) (cs ++ ds) → w.grownBy w' v.ownBlock → (v'.ownBlock = v.ownBlock ∨ v'.ownBlock = some w.heap.size) → K (a.put o.dst v') w') :
    if Region.wanted o (yielded ops a.tmps) = true then Oper.wp P o a w K Q else E := by
  have hw : Region.wanted o (yielded ops a.tmps) = true := by simp [Region.wanted, hgd]
  rw [if_pos hw]
  exact wp_append_row w s x t tx ho base e i z sz by_ ht hi hz hzc hsize hby v n cs hs hown xv m ds hx hsrc hm hb hml hbase h
theorem pstep_append_at {P : Program} {w : World} {ops : Array Oper} {o : Oper} {a : Act} {K : Act → World → Prop} {Q : Exit → Act → World → Prop} {E : Prop} {d : Nat} (hgd : o.guard = none) (hdst : o.dst = some d) (s x : Operand) (t tx : TypeId)
    (ho : o.op = .call { callee := .builtin .append, args := #[s, x], argTypes := #[t, tx] }) (base : Nat) (e : TypeId) (i : TypeInfo) (z : Value) (sz by_ : Nat) (ht : P.underlying t = some (.slice e)) (hi : P.info? e = some i) (hz : i.zero = some z) (hzc : z.cells.size = sz)
    (hsize : i.size = sz) (hby : i.bytes = by_) (v : Value) (n : Nat) (cs : List Value) (hs : a.eval s = v) (hown : w.ownsRow base e sz v n cs) (xv : Value) (m : Nat) (ds : List Value) (hx : a.eval x = xv) (hsrc : Src P sz tx xv m ds w) (hm : 0 < n + m)
    (hb : (n + m) * by_ ≤ 140737488355328) (hml : n + m ≤ maxLen) (hbase : base ≤ w.heap.size)
    (h : ∀ v' w', w'.ownsRow base e sz v' (n + m) (cs ++ ds) → w.grownBy w' v.ownBlock → (v'.ownBlock = v.ownBlock ∨ v'.ownBlock = some w.heap.size) → K (a.put (some d) v') w') :
    if Region.wanted o (yielded ops a.tmps) = true then Oper.wp P o a w K Q else E := by
  exact pstep_append hgd s x t tx ho base e i z sz by_ ht hi hz hzc hsize hby v n cs hs hown xv m ds hx hsrc hm hb hml hbase (fun v' w' h1 h2 h3 => by rw [hdst]; exact h v' w' h1 h2 h3)
theorem prow_shape {w : World} {base sz n : Nat} {e : TypeId} {v : Value} {xs : List Value} (h : w.ownsRow base e sz v n xs) : ∃ a c, v = .slice a n c := by
  rcases h.2 with ⟨rfl, rfl⟩ | ⟨g, cap, cur, rfl, _⟩
  · exact ⟨none, 0, rfl⟩
  · exact ⟨_, cap, rfl⟩
theorem prow_kept {w w' : World} {base sz n : Nat} {e : TypeId} {v : Value} {xs : List Value} {S : Nat → Prop} (h : w.ownsRow base e sz v n xs) (hk : Kp S w w') (hS : ∀ k, v.ownBlock = some k → ¬ S k) : w'.ownsRow base e sz v n xs := by
  rcases h.2 with ⟨rfl, h0⟩ | ⟨g, cap, cur, rfl, hb, hg, h1, h2, h3, h4⟩
  · exact ⟨h.1, .inl ⟨rfl, h0⟩⟩
  · have hlt : g < w.heap.size := (Array.getElem?_eq_some_iff.1 hg).1
    exact ⟨h.1, .inr ⟨g, cap, cur, rfl, hb, by rw [hk.block g hlt (hS g rfl)]; exact hg, h1, h2, h3, h4⟩⟩
/-- The struct while New goes on. -/
structure Pn (w : World) (r : Nat) (a : Option Addr) (cap : Nat) (k : Nat) (Z : ByteArray) : Prop where
  c0 : w.cell? ⟨r, 0, none⟩ = some (.slice a k cap)
  fr : w.frozen? ⟨r, 0, none⟩ = false
  ow : w.ownsRow (r + 1) 9 1 (.slice a k cap) k (List.replicate k (.string Z))
set_option maxRecDepth 100000 in
set_option maxHeartbeats 1600000 in
theorem prnew_any (n : Nat) (w : World) (hn : n ≤ 4096) :
    Calls Tryz.prog 33 #[.int .i64 (n : Int)] w fun e w' => ∃ r, e = .returned (.pointer (some ⟨r, 0, none⟩)) ∧ Pgl (fun k => w.heap.size ≤ k) w' r (List.replicate n (fillB 0)) ∧ Kp none' w w' := by
  have hka := Kp.alloc none' w (.cells #[.slice none 0 0] 45)
  have hb : (w.alloc (.cells #[.slice none 0 0] 45)).heap[w.heap.size]? = some (.cells #[.slice none 0 0] 45 (0, 0)) := heap_alloc_new w _
  obtain ⟨wa, Ha⟩ : ∃ wa, Hid (w.alloc (.cells #[.slice none 0 0] 45) = wa) := ⟨_, rfl⟩
  rw [Ha.out] at hka hb
  obtain ⟨r, HG⟩ : ∃ r, Hid (w.heap.size = r) := ⟨_, rfl⟩
  rw [HG.out] at hb ⊢
  obtain ⟨i0, hi, hz0, hz1, hz2⟩ := info_parts infoStr
  obtain ⟨Z, HZ⟩ : ∃ Z : ByteArray, Hid (fillB 0 = Z) := ⟨_, rfl⟩
  have R0 : Pn wa r none 0 0 Z := ⟨by rw [cell_of_row _ _ _ _ _ _ hb]; rfl, by unfold World.frozen?; rw [show wa.heap[(⟨r, 0, none⟩ : Addr).block]? = _ from hb]; simp, World.ownsRow_nil wa (r + 1) _ 1⟩
  have hra : r < wa.heap.size := (Array.getElem?_eq_some_iff.1 hb).1
  clear hb
  go_enter Tryz.func33, Tryz.ntmps33
  go_upto_region 2 with fail
  rw [Ha.out, HG.out]
  go_wp2
  go_loopw [4] (fun t wr => ∃ (k : Nat) (a : Option Addr) (cap : Nat), k ≤ n ∧ t = .int .i64 k ∧ Pn wr r a cap k Z ∧ Kp none' w wr) (fun t _ => n - (intOf t).toNat)
  case atStart => exact ⟨0, none, 0, Nat.zero_le _, rfl, R0, hka⟩
  case round =>
    obtain ⟨k, a, cap, hk, rfl, hR, hKr⟩ := hrel
    clear R0 hka
    by_cases hlt : k < n
    · have hk' : (k : Int) < (n : Int) := by omega
      have c0 := hR.c0
      have k0 : ∀ W : World, Kp none' wr W → W.cell? ⟨r, 0, none⟩ = some (.slice a k cap) := fun W h => h.cell c0 (fun h => h)
      have dr : Kp none' wr wr.drew := Kp.drew _ _
      have c0d := k0 _ dr
      have HR : Hid (Pn wr r a cap k Z) := hR
      have HK : Hid (Kp none' w wr) := hKr
      have Hrow : Hid (∀ z, (Value.slice a k cap).ownBlock = some z → r + 1 ≤ z) := fun z hz => (World.ownsRow.lt hR.ow z hz).1
      have Hb : Hid ((k + 1) * 16 ≤ 140737488355328 ∧ k + 1 ≤ maxLen) := ⟨by omega, by unfold maxLen; omega⟩
      have Hsz : Hid (r + 1 ≤ wr.heap.size) := lt_of_cell c0
      clear hR hKr
      go_upto_region 5 with fail
      go_region_law (first
        | (go_simp; go_at_call 62; refine (zero_any _).mono ?_; rintro e w2 ⟨rfl, hk2⟩; rw [HZ.out]; have S2 : Kp none' wr w2 := Kp.then (by assumption) hk2; have c2 := k0 _ S2; have ca : ∀ o, (w2.alloc o).cell? ⟨r, 0, none⟩ = some (.slice a k cap) := fun o => k0 _ (S2.then (Kp.alloc none' w2 o)))
        | (refine pstep_append (by rfl) (.tmp 16) (.tmp 18) 43 43 (by rfl) (r + 1) 9 i0 _ 1 16 Tryz.underlying43 hi hz0 (by rfl) hz1 hz2 (.slice a k cap) _ _ (by rfl) (World.ownsRow.alloc (prow_kept HR.out.ow S2 (fun _ _ h => h)) _) _ 1 [.string Z] (by rfl) (src_cell _ 43 9 Tryz.underlying43 _ rfl _ (by rfl)) (by omega) Hb.out.1 Hb.out.2 (by have := S2.size; have := Hsz.out; simp; omega) ?_; intro v4 w4 ho4 hg4 hv4; obtain ⟨a4, m4, rfl⟩ := prow_shape ho4; have hk4 : Kp (fun z => (Value.slice a k cap).ownBlock = some z) wr w4 := (S2.mono (fun _ _ h => h.elim)).then ((Kp.alloc _ w2 _).then (Kp.ofGrown hg4 (fun z hz _ => hz))); have c4 := hk4.cell c0 (fun h => by have := Hrow.out r h; omega); have f4 : w4.frozen? ⟨r, 0, none⟩ = false := by rw [hk4.frozen (Nat.lt_of_succ_le Hsz.out) (fun h => by have := Hrow.out r h; omega)]; exact HR.out.fr)
        | fail)
      all_goals
        have hkS : Kp (only r) w4 (w4.setCell ⟨r, 0, none⟩ (.slice a4 (k + 1) m4)) := Kp.setCell _ _ _ _ rfl
        have hR5 : Pn (w4.setCell ⟨r, 0, none⟩ (.slice a4 (k + 1) m4)) r a4 m4 (k + 1) Z := by
          refine ⟨World.cell?_setCell_same _ _ _ c4, by rw [World.frozen?_setCell]; exact f4, prow_kept ?_ hkS (fun z hz h => ?_)⟩
          · rw [List.replicate_succ']
            exact ho4
          · have := (World.ownsRow.lt ho4 z hz).1
            unfold only at h
            omega
        have hK5 : Kp none' w (w4.setCell ⟨r, 0, none⟩ (.slice a4 (k + 1) m4)) := (HK.out.trans hk4 (fun _ _ h => h) (fun z hz h => absurd hz (by have := Hrow.out z h; have := HG.out; omega))).trans hkS (fun _ _ h => h) (fun z hz h => absurd hz (by have := HG.out; unfold only at h; omega))
        go_wp2
        go_roundw
        case rel => exact ⟨k + 1, _, _, by omega, by go_num, hR5, hK5⟩
        case measure => simp [intOf]; omega
    · obtain rfl : k = n := by omega
      have hP : Pgl (fun j => r ≤ j) wr r (List.replicate k (fillB 0)) := by
        rw [HZ.out]
        refine ⟨⟨_, hR.c0, ?_⟩, Nat.le_refl _⟩
        have hO : Ow Value.string 9 wr (r + 1) (.slice a k cap) (List.replicate k Z) := by
          unfold Ow
          rw [List.length_replicate, List.map_replicate]
          exact hR.ow
        exact hO.txs.mono (fun j _ hj => Nat.le_of_succ_le hj)
      clear hR
      go_wp2
      go_ret
      exact ⟨r, rfl, hP, hKr⟩

/-- May changes be? -/
def rightE (n : Nat) (l : List Chg) : Int := if 31 < l.length then 3 else if allB n (l.map Chg.page) then (if (l.map Chg.page).Nodup then 0 else 1) else 7
theorem refE_right {n : Nat} {l : List Chg} (hn : n ≤ 160) (hd : ∀ c ∈ l, c.data.size = 256) : refE n [] l = rightE n l := by
  unfold refE rightE
  rw [if_neg (by simp)]
  by_cases h1 : 31 < l.length
  · rw [if_pos h1, if_pos h1]
  · rw [if_neg h1, if_neg h1]
    cases hall : allB n (l.map Chg.page) with
    | false => rfl
    | true =>
      rw [if_pos rfl, if_pos rfl, if_pos hd]
      have hA : ∀ z ∈ l.map Chg.page, 0 ≤ z ∧ z < 65536 := fun z hz => by
        unfold allB at hall
        rw [List.all_eq_true] at hall
        have := hall z hz
        simp [hasB] at this
        omega
      unfold wE okP
      rw [if_neg (by rw [List.length_map]; exact h1)]
      by_cases hnd : (l.map Chg.page).Nodup
      · rw [if_pos hnd, if_pos (by simp only [decide_eq_true_eq]; exact ⟨hA, hnd⟩)]
      · rw [if_neg hnd, if_neg (by simp only [decide_eq_true_eq]; exact fun h => hnd h.2)]
theorem right_ok {n : Nat} {l : List Chg} (h : rightE n l = 0) (hd : ∀ c ∈ l, c.data.size = 256) : okC n l := by
  unfold rightE at h
  by_cases h1 : 31 < l.length
  · rw [if_pos h1] at h; cases h
  · rw [if_neg h1] at h
    cases hall : allB n (l.map Chg.page) with
    | false => rw [hall] at h; cases h
    | true =>
      rw [hall, if_pos rfl] at h
      by_cases hnd : (l.map Chg.page).Nodup
      · refine ⟨fun c hc => ?_, hd, hnd, by omega⟩
        unfold allB at hall
        rw [List.all_eq_true] at hall
        have := hall c.page (List.mem_map_of_mem hc)
        simpa [hasB] using this
      · rw [if_neg hnd] at h; cases h
theorem nodup_snoc {l : List Int} {z : Int} : (l ++ [z]).Nodup ↔ l.Nodup ∧ z ∉ l := by
  rw [List.nodup_append]
  simp
  intro _
  constructor
  · intro h hz; exact h z hz rfl
  · intro h a ha e; subst e; exact h ha
end Go.Proofs.YtmnedhlgplkfhaaGreat

namespace Go.Proofs.YtmnedhlgplkfhaaGreat
open Go.RowKit
set_option linter.unusedVariables false

theorem clean_look {n : Nat} {D : Dv} {Q : Nat → ByteArray} (hu : ∀ k, D.u k = none) (hC : Clean n D.s Q) (hQ : ∀ p, (Q p).size = 256) (p : Nat) (hp : p < n) : lookS D (placeN p) = Q p :=
  look_page (hQ p) (fun j hj => by rw [at_none hu]; exact hC.2 p hp j hj)
theorem clean_old {n : Nat} {D : Dv} {Q : Nat → ByteArray} {l : List Chg} (hu : ∀ k, D.u k = none) (hC : Clean n D.s Q) (hQ : ∀ p, (Q p).size = 256) (h : okC n l) : oldD D l = oldC Q l := by
  unfold oldD oldC
  refine List.map_congr_left (fun c hc => ?_)
  have := h.p c hc
  rw [clean_look hu hC hQ c.page.toNat (by omega)]
theorem clean_back {n : Nat} {D : Dv} {Q : Nat → ByteArray} (hu : ∀ k, D.u k = none) (hC : Clean n D.s Q) : D.back n = D ∧ D.backE n = 0 := by
  have h : says (D.at 0) = false := by rw [at_none hu]; exact hC.1
  constructor
  · unfold Dv.back
    rw [if_neg (by rw [h]; simp)]
  · unfold Dv.backE
    rw [if_neg (by rw [h]; simp)]
theorem rec_back {n : Nat} {D : Dv} {Q : Nat → ByteArray} (hn : D.n = 126 + 4 * n) (hu : ∀ k, D.u k = none) (hR : Rec n D.s Q) (hQ : ∀ p, (Q p).size = 256) :
    (D.backE n = 0 → Clean n (D.back n).s Q ∧ ∀ k, (D.back n).u k = none) ∧ (D.backE n ≠ 0 → D.backE n = 9 ∧ ∀ S, After (D.back n) S → Rec n S Q) ∧ (D.st = false → D.backE n = 0) := by
  rcases hR with hC | ⟨hy, L, hU⟩
  · obtain ⟨h1, h2⟩ := clean_back hu hC
    rw [h1, h2]
    exact ⟨fun _ => ⟨hC, hu⟩, fun h => absurd rfl h, fun _ => rfl⟩
  · have hy' : says (D.at 0) = true := by rw [at_none hu]; exact hy
    have he : dirE (D.at 1) = 0 := by rw [at_none hu]; exact hU.e
    have hl : dirL (D.at 1) = L := by rw [at_none hu]; exact hU.l
    have ha : allB n (dirL (D.at 1)) = true := by
      rw [hl]
      unfold allB
      rw [List.all_eq_true]
      intro z hz
      have := hU.r z hz
      simp [hasB]
      omega
    have hi : imgD D (dirL (D.at 1)) = imgC Q L := by
      rw [hl]
      refine List.ext_getElem (by rw [imgD_len]; simp [imgC]) fun k h1 h2 => ?_
      have hk : k < L.length := by rw [imgD_len] at h1; exact h1
      rw [imgD_at D L k hk]
      have e : lookS D (imageN k) = Q L[k].toNat := look_page (hQ _) (fun j hj => by rw [at_none hu]; exact hU.i k hk j hj)
      rw [e]
      simp [imgC]
    have hB : D.back n = D.go (stW (imgC Q L)) := by unfold Dv.back; rw [if_pos ⟨hy', he, ha⟩, hi]
    have hE : D.backE n = D.goE (stW (imgC Q L)) := by unfold Dv.backE; rw [if_pos hy', if_pos ⟨he, ha⟩, hi]
    obtain ⟨a, b⟩ := recover_pure n D Q L hn hu hy hU hQ
    rw [hB, hE]
    refine ⟨a, fun h => ⟨(goE_or _ D).resolve_left h, b h⟩, fun h => goE_free _ D h⟩
theorem back_n (D : Dv) (n : Nat) : (D.back n).n = D.n ∧ D.c ≤ (D.back n).c ∧ (D.back n).st = D.st := by
  unfold Dv.back
  split
  · have := go_n (stW (imgD D (dirL (D.at 1)))) D
    exact ⟨this.1, this.2.2.2.1, this.2.1⟩
  · exact ⟨rfl, Int.le_refl _, rfl⟩
theorem back_c {D : Dv} (n : Nat) : (D.back n).c ≤ D.c + 1100 := by
  unfold Dv.back
  split
  · rename_i h
    have h1 := (go_n (stW (imgD D (dirL (D.at 1)))) D).2.2.2.2
    have h2 := stW_len (imgD D (dirL (D.at 1)))
    have h3 := imgD_len D (dirL (D.at 1))
    have h4 : (dirL (D.at 1)).length ≤ 255 := rL_len _
    omega
  · omega
theorem fresh_clean (n N : Nat) : Clean n (fresh N).s (fun _ => fillB 0) := by
  refine ⟨by kernel_rfl, fun p hp j hj => ?_⟩
  show noughts = secL (fillB 0) j
  rw [secL_list]
  show noughts = ((List.replicate 256 (0 : UInt8)).drop (j * 64)).take 64
  rw [List.drop_replicate, List.take_replicate]
  unfold noughts
  congr 1
  omega
/-- What a pager that kept the pages of a commit tells. -/
theorem rdP_old {n : Nat} {D D' : Dv} {Q : Nat → ByteArray} {l : List Chg} (hu : ∀ k, D.u k = none) (hC : Clean n D.s Q) (hQ : ∀ p, (Q p).size = 256) (h : okC n l) (hD' : D' = D.go (cmW (oldC Q l) l)) (p : Nat) (hp : p < n) : rdP D' (oldC Q l) p = Q p := by
  unfold rdP
  cases hf : (oldC Q l).find? (fun c => c.page == (p : Int)) with
  | some c =>
    have h1 := List.find?_some hf
    have h2 := List.mem_of_find?_eq_some hf
    obtain ⟨d, hd, rfl⟩ := List.mem_map.1 h2
    simp at h1
    simp [h1]
  | none =>
    have hno : ∀ c ∈ l, c.page ≠ (p : Int) := fun c hc he => by
      rw [List.find?_eq_none] at hf
      have := hf ⟨c.page, Q c.page.toNat⟩ (by unfold oldC; exact List.mem_map_of_mem (f := fun c : Chg => (⟨c.page, Q c.page.toNat⟩ : Chg)) hc)
      simp [he] at this
    refine look_page (hQ p) (fun j hj => ?_)
    rw [hD', go_at_out, at_none hu]
    · exact hC.2 p hp j hj
    · intro x hx
      unfold cmW stW jrW at hx
      simp only [List.mem_append, List.mem_cons, List.not_mem_nil, or_false, List.cons_append, List.nil_append] at hx
      have hm := h.m
      have hol : (oldC Q l).length = l.length := by simp [oldC]
      have himg : Stp.wr (placeN p j) x ∉ imW 0 (oldC Q l) := fun hx => by
        obtain ⟨k, hk, j', hj', e, _⟩ := (mem_imW _ 0 _ _).1 hx
        unfold placeN imageN at e
        omega
      have hpl : Stp.wr (placeN p j) x ∉ plW l := fun hx => by
        obtain ⟨c, hc, j', hj', e, _⟩ := mem_plW.1 hx
        unfold placeN at e
        have := (h.p c hc).1
        exact hno c hc (by omega)
      have hw : ∀ (i : Nat) y, i < 126 → Stp.wr (placeN p j) x ≠ .wr i y := fun i y hi e => by
        have e1 := (Stp.wr_inj e).1
        unfold placeN at e1
        omega
      have hs : Stp.wr (placeN p j) x ≠ .sy := fun e => Stp.wr_sy e
      rcases hx with hx | hx | hx | hx | hx | hx | hx | hx | hx
      all_goals first | exact hw _ _ (by omega) hx | exact hs hx | exact himg hx | exact hpl hx | (rcases hx with hx | hx <;> first | exact hw _ _ (by omega) hx | exact hs hx | exact himg hx | exact hpl hx)

end Go.Proofs.YtmnedhlgplkfhaaGreat

namespace Go.Proofs.YtmnedhlgplkfhaaGreat
open Go.RowKit
set_option linter.unusedVariables false

/-- The pages with changes made, as a list. -/
def withL (Q : List ByteArray) (l : List Chg) : List ByteArray := l.foldl (fun Q c => Q.set c.page.toNat c.data) Q
theorem withL_len (l : List Chg) : ∀ Q, (withL Q l).length = Q.length := by
  induction l with
  | nil => intro Q; rfl
  | cons c l ih => intro Q; show (withL _ l).length = _; rw [ih, List.length_set]
theorem withL_take (Q : List ByteArray) (l : List Chg) (k : Nat) (h : k < l.length) : withL Q (l.take (k + 1)) = (withL Q (l.take k)).set l[k].page.toNat l[k].data := by
  rw [List.take_succ_eq_append_getElem h]
  unfold withL
  rw [List.foldl_append]
  rfl
/-- Pages by number. -/
def pgF (Q : List ByteArray) : Nat → ByteArray := fun p => Q.getD p (fillB 0)
theorem pgF_at (Q : List ByteArray) (p : Nat) (h : p < Q.length) : pgF Q p = Q[p] := by
  unfold pgF
  rw [List.getD_eq_getElem?_getD, List.getElem?_eq_getElem h]
  rfl
theorem pgF_size {Q : List ByteArray} (h : ∀ x ∈ Q, x.size = 256) (p : Nat) : (pgF Q p).size = 256 := by
  by_cases hp : p < Q.length
  · rw [pgF_at Q p hp]
    exact h _ (List.getElem_mem hp)
  · unfold pgF
    rw [List.getD_eq_getElem?_getD, List.getElem?_eq_none (by omega)]
    exact fillB_size 0
theorem withL_pgF (l : List Chg) : ∀ Q : List ByteArray, (∀ c ∈ l, 0 ≤ c.page ∧ c.page < Q.length) → pgF (withL Q l) = withC (pgF Q) l := by
  induction l with
  | nil => intro Q _; rfl
  | cons c l ih =>
    intro Q h
    show pgF (withL (Q.set c.page.toNat c.data) l) = withC (fun p => if (p : Int) = c.page then c.data else pgF Q p) l
    rw [ih _ (fun d hd => by rw [List.length_set]; exact h d (List.mem_cons_of_mem _ hd))]
    congr 1
    funext p
    have hc := h c List.mem_cons_self
    unfold pgF
    rw [List.getD_eq_getElem?_getD, List.getD_eq_getElem?_getD, List.getElem?_set]
    by_cases e : c.page.toNat = p
    · rw [if_pos e, if_pos (by omega), if_pos (by omega)]
      rfl
    · rw [if_neg e, if_neg (by omega)]
theorem withL_sizes {Q : List ByteArray} {l : List Chg} (hQ : ∀ x ∈ Q, x.size = 256) (hl : ∀ c ∈ l, c.data.size = 256) : ∀ x ∈ withL Q l, x.size = 256 := by
  induction l generalizing Q with
  | nil => exact hQ
  | cons c l ih =>
    show ∀ x ∈ withL (Q.set c.page.toNat c.data) l, x.size = 256
    refine ih (fun x hx => ?_) (fun d hd => hl d (List.mem_cons_of_mem _ hd))
    rcases List.mem_or_eq_of_mem_set hx with h | h
    · exact hQ x h
    · rw [h]; exact hl c List.mem_cons_self
end Go.Proofs.YtmnedhlgplkfhaaGreat
