/- Contracts, over the turned program: a pager's writePages, writeJournal, settle and its closures. Conditions: those that each theorem states. -/
import Derived.Test.YtgfijbbibafdfaaGreatPTurn
namespace Go.Proofs.YtgfijbbibafdfaaGreat
open Go.RowKit
set_option linter.unusedVariables false

theorem plW_take (l : List Chg) (k : Nat) (h : k < l.length) : plW (l.take (k + 1)) = plW (l.take k) ++ pgW (placeN l[k].page.toNat) l[k].data := by
  rw [List.take_succ_eq_append_getElem h]
  unfold plW
  rw [List.flatMap_append, List.flatMap_singleton]
theorem plW_all (l : List Chg) (k : Nat) (h : k < l.length) : plW l = plW (l.take k) ++ pgW (placeN l[k].page.toNat) l[k].data ++ plW (l.drop (k + 1)) := by
  rw [← plW_take l k h]
  have e : ∀ a b : List Chg, plW (a ++ b) = plW a ++ plW b := fun a b => by simp [plW]
  rw [← e, List.take_append_drop]
theorem imW_append (a b : List Chg) : ∀ m, imW m (a ++ b) = imW m a ++ imW (m + a.length) b := by
  induction a with
  | nil => intro m; rfl
  | cons c a ih =>
    intro m
    rw [List.cons_append, imW, ih, imW, List.append_assoc, List.length_cons]
    congr 3
    omega
theorem imW_take (l : List Chg) (k : Nat) (h : k < l.length) : imW 0 (l.take (k + 1)) = imW 0 (l.take k) ++ pgW (imageN k) l[k].data := by
  rw [List.take_succ_eq_append_getElem h, imW_append, List.length_take, Nat.zero_add, Nat.min_eq_left (by omega)]
  simp [imW]
theorem imW_all (l : List Chg) (k : Nat) (h : k < l.length) : imW 0 l = imW 0 (l.take k) ++ pgW (imageN k) l[k].data ++ imW (k + 1) (l.drop (k + 1)) := by
  rw [← imW_take l k h]
  have hl : (l.take (k + 1)).length = k + 1 := by rw [List.length_take]; omega
  have e := imW_append (l.take (k + 1)) (l.drop (k + 1)) 0
  rw [List.take_append_drop, hl, Nat.zero_add] at e
  exact e
set_option maxRecDepth 100000 in
set_option maxHeartbeats 800000 in
theorem writePages_any (g n : Nat) (p : Dp) (D : Dv) (v : Value) (l : List Chg) (w : World) (hc0 : w.cell? ⟨g, 0, none⟩ = some (.pointer (some ⟨p.d, 0, none⟩))) (hgp : ¬ p.mem g) (hD : Dev w p D) (h0 : 0 ≤ D.c) (h1 : D.c ≤ 998000) (hn : 126 + 4 * n ≤ D.n) (hn2 : n ≤ 160)
    (hS : Chs (fun k => ¬ p.mem k) w v l) (hok : okC n l) :
    Calls Tryz.prog 57 #[.pointer (some ⟨g, 0, none⟩), v] w fun e w' => e = .returned (.int .i64 (D.goE (plW l))) ∧ Dev w' p (D.go (plW l)) ∧ Kp p.mem w w' := by
  obtain ⟨a, c, rfl, _, _, ha'⟩ := hS
  have ha := hide ha'
  clear ha'
  obtain ⟨E, HE⟩ : ∃ E, Hid (D.goE (plW l) = E) := ⟨_, rfl⟩
  obtain ⟨F, HF⟩ : ∃ F, Hid (D.go (plW l) = F) := ⟨_, rfl⟩
  rw [HE.out, HF.out]
  have hm := hok.m
  go_enter Tryz.func57, Tryz.ntmps57
  go_wp2
  go_loopw [10] (fun t wr => ∃ j : Nat, j ≤ l.length ∧ t = .int .i64 j ∧ D.goE (plW (l.take j)) = 0 ∧ Dev wr p (D.go (plW (l.take j))) ∧ Kp p.mem w wr) (fun t _ => l.length - (intOf t).toNat)
  case atStart => exact ⟨0, Nat.zero_le _, rfl, rfl, hD, Kp.refl _ _⟩
  case round =>
    obtain ⟨j, hj, rfl, hz, hDr, hK⟩ := hrel
    by_cases hlt : j < l.length
    · have hji : (j : Int) < (l.length : Int) := by omega
      obtain ⟨b, o, rfl, hbm, hbl, hq0, hq1⟩ := ha.out j hlt
      have d0 := hK.cell hq0 hbm
      have d1 := hK.cell hq1 hbm
      have hcr := hK.cell hc0 hgp
      have hpr := hok.p l[j] (List.getElem_mem hlt)
      have hdr := hok.d l[j] (List.getElem_mem hlt)
      obtain ⟨q, hq⟩ : ∃ q : Nat, l[j].page = q := ⟨l[j].page.toNat, by omega⟩
      have hqn : q < n := by omega
      have ht := plW_take l j hlt
      have hall := plW_all l j hlt
      have hgn := go_n (plW (l.take j)) D
      have hpl := plW_len (l.take j)
      have htl : (l.take j).length = j := by rw [List.length_take]; omega
      have hD0 : 0 ≤ (D.go (plW (l.take j))).c := by omega
      have hD1 : (D.go (plW (l.take j))).c ≤ 999000 := by omega
      rw [hq] at d0 ht hall
      rw [Int.toNat_natCast] at ht hall
      have hnn : ∀ i, i < 4 → placeN q i < (D.go (plW (l.take j))).n := fun i hi => by rw [hgn.1]; unfold placeN; omega
      have Hok := hide (seq_ok (plW (l.take j)) (pgW (placeN q) l[j].data) D hz)
      have Hbad := hide (seq_bad (plW (l.take j)) (pgW (placeN q) l[j].data) (plW (l.drop (j + 1))) D hz)
      rw [← ht] at Hok
      rw [← hall, HE.out, HF.out] at Hbad
      have hka := Kp.alloc none' wr (.cells #[.int .i64 (q : Int), .string l[j].data] 56)
      have hv := chg_var wr ⟨q, l[j].data⟩ 56
      clear ht hall hgn hpl htl hpr hq hq0 hq1
      generalize l[j].data = x at *
      generalize D.go (plW (l.take j)) = Dj at *
      obtain ⟨wb, Hb⟩ : ∃ wb, Hid (wr.alloc (.cells #[.int .i64 (q : Int), .string x] 56) = wb) := ⟨_, rfl⟩
      go_upto_region 4 with fail
      rw [Hb.out]
      rw [show (wr.alloc (.cells #[.int .i64 (⟨q, x⟩ : Chg).page, .string (⟨q, x⟩ : Chg).data] 56)) = wr.alloc (.cells #[.int .i64 (q : Int), .string x] 56) from rfl, Hb.out] at hv
      rw [Hb.out] at hka
      have v0 : wb.cell? ⟨wr.heap.size, 0, none⟩ = some (.int .i64 (q : Int)) := hv.1
      have v1 : wb.cell? ⟨wr.heap.size, 1, none⟩ = some (.string x) := hv.2
      generalize wr.heap.size = gg at *
      have hDb := hDr.keptN hka
      have hcb := hka.cell hcr (fun h => h)
      have hc2 := write_place g q x p Dj wb hcb hgp hDb hD0 hD1 hdr (by omega) hnn
      clear hv d0 d1
      rcases goE_or (pgW (placeN q) x) Dj with he | he
      · have HO2 := hide (Hok.out he)
        rw [he] at hc2
        clear Hok Hbad
        go_wp2_with (go_at_call 52; refine hc2.mono ?_; rintro e w2 ⟨rfl, hD3, hk3⟩)
        go_roundw
        case rel => exact ⟨j + 1, by omega, by go_num, HO2.out.1, by rw [HO2.out.2]; exact hD3, (hK.thenN hka).then hk3⟩
        case measure => simp [intOf]; omega
      · have HO2 := hide (Hbad.out (by rw [he]; decide))
        rw [he] at hc2
        clear Hok Hbad
        go_wp2_with (go_at_call 52; refine hc2.mono ?_; rintro e w2 ⟨rfl, hD3, hk3⟩)
        go_ret
        exact ⟨by rw [HO2.out.1]; rfl, by rw [HO2.out.2]; exact hD3, (hK.thenN hka).then hk3⟩
    · obtain rfl : j = l.length := by omega
      rw [List.take_length] at hz hDr
      rw [HE.out] at hz
      rw [HF.out] at hDr
      go_wp2
      go_ret
      exact ⟨by rw [hz]; rfl, hDr, hK⟩

set_option maxRecDepth 100000 in
set_option maxHeartbeats 400000 in
theorem settle1_any (b2 b3 g n : Nat) (p : Dp) (D : Dv) (v : Value) (l : List Chg) (w : World) (h2 : w.cell? ⟨b2, 0, none⟩ = some (.pointer (some ⟨g, 0, none⟩))) (h3 : w.cell? ⟨b3, 0, none⟩ = some v)
    (hc0 : w.cell? ⟨g, 0, none⟩ = some (.pointer (some ⟨p.d, 0, none⟩))) (hgp : ¬ p.mem g) (hD : Dev w p D) (h0 : 0 ≤ D.c) (h1 : D.c ≤ 998000) (hn : 126 + 4 * n ≤ D.n) (hn2 : n ≤ 160)
    (hS : Chs (fun k => ¬ p.mem k) w v l) (hok : okC n l) :
    Calls Tryz.prog 56 #[.pointer (some ⟨b2, 0, none⟩), .pointer (some ⟨b3, 0, none⟩)] w fun e w' => e = .returned (.int .i64 (D.goE (plW l))) ∧ Dev w' p (D.go (plW l)) ∧ Kp p.mem w w' := by
  have hc := writePages_any g n p D v l w hc0 hgp hD h0 h1 hn hn2 hS hok
  obtain ⟨a, c, rfl⟩ := hS.shape
  go_enter Tryz.func56, Tryz.ntmps56
  go_wp2_with (go_at_call 57; refine hc.mono ?_; rintro e w2 ⟨rfl, hD3, hk3⟩)
  go_ret
  exact ⟨rfl, hD3, hk3⟩
set_option maxRecDepth 100000 in
set_option maxHeartbeats 400000 in
theorem settle2_any (b2 g : Nat) (p : Dp) (D : Dv) (w : World) (h2 : w.cell? ⟨b2, 0, none⟩ = some (.pointer (some ⟨g, 0, none⟩)))
    (hc0 : w.cell? ⟨g, 0, none⟩ = some (.pointer (some ⟨p.d, 0, none⟩))) (hgp : ¬ p.mem g) (hbp : ¬ p.mem b2) (hD : Dev w p D) (h0 : 0 ≤ D.c) (h1 : D.c ≤ 998000) (hn : 0 < D.n) :
    Calls Tryz.prog 58 #[.pointer (some ⟨b2, 0, none⟩)] w fun e w' => e = .returned (.int .i64 (D.goE [.wr 0 (markL false)])) ∧ Dev w' p (D.go [.wr 0 (markL false)]) ∧ Kp p.mem w w' := by
  have hwg := write_go D 0 (markL false) hn (whole_len _)
  obtain ⟨E, HE⟩ : ∃ E, Hid (D.goE [.wr 0 (markL false)] = E) := ⟨_, rfl⟩
  obtain ⟨F, HF⟩ : ∃ F, Hid (D.go [.wr 0 (markL false)] = F) := ⟨_, rfl⟩
  rw [HE.out, HF.out] at hwg
  rw [HE.out, HF.out]
  have hms : (⟨(markL false).toArray⟩ : ByteArray).size ≤ maxLen := by
    show (markL false).toArray.size ≤ maxLen
    rw [List.size_toArray, show (markL false).length = 64 from whole_len _]
    unfold maxLen
    omega
  obtain ⟨M, HM⟩ : ∃ M, Hid ((⟨(markL false).toArray⟩ : ByteArray) = M) := ⟨_, rfl⟩
  rw [HM.out] at hms hwg
  obtain ⟨hw1, hw2⟩ := hwg
  rw [show (((0 : Nat) : Int)) = 0 from rfl] at hw1 hw2
  have HW1 := hide hw1
  have HW2 := hide hw2
  clear hw1 hw2
  have hDd := hD.drew
  have t2 : w.drew.cell? ⟨b2, 0, none⟩ = some (.pointer (some ⟨g, 0, none⟩)) := h2
  have t0 : w.drew.cell? ⟨g, 0, none⟩ = some (.pointer (some ⟨p.d, 0, none⟩)) := hc0
  go_enter Tryz.func58, Tryz.ntmps58
  go_upto_region 1 with fail
  go_region_held_law (fun W => W.cell? ⟨b2, 0, none⟩ = some (.pointer (some ⟨g, 0, none⟩)) ∧ W.cell? ⟨g, 0, none⟩ = some (.pointer (some ⟨p.d, 0, none⟩))) (first | assumption | exact ⟨t2, t0⟩) (first
    | (go_at_call 35; refine (mark_any false _).mono ?_; rintro e w1 ⟨rfl, hk1⟩; rw [HM.out]; have T1 : w1.cell? ⟨b2, 0, none⟩ = some (.pointer (some ⟨g, 0, none⟩)) ∧ w1.cell? ⟨g, 0, none⟩ = some (.pointer (some ⟨p.d, 0, none⟩)) := ⟨hk1.cell t2 (fun h => h), hk1.cell t0 (fun h => h)⟩; have hD1 := hDd.keptN hk1)
    | (go_at_call 34; refine (write_any p D 0 M _ hD1 h0 (by omega) hms).mono ?_; rintro e w2 ⟨rfl, hD2, hk2⟩; rw [HW2.out]; rw [HW1.out] at hD2; have T2 : w2.cell? ⟨b2, 0, none⟩ = some (.pointer (some ⟨g, 0, none⟩)) ∧ w2.cell? ⟨g, 0, none⟩ = some (.pointer (some ⟨p.d, 0, none⟩)) := ⟨hk2.cell T1.1 hbp, hk2.cell T1.2 hgp⟩)
    | fail)
  go_wp2
  go_ret
  exact ⟨rfl, hD2, ((Kp.drew p.mem w).thenN hk1).then hk2⟩
set_option maxRecDepth 100000 in
set_option maxHeartbeats 400000 in
theorem commit2_any (b2 g : Nat) (p : Dp) (D : Dv) (w : World) (h2 : w.cell? ⟨b2, 0, none⟩ = some (.pointer (some ⟨g, 0, none⟩)))
    (hc0 : w.cell? ⟨g, 0, none⟩ = some (.pointer (some ⟨p.d, 0, none⟩))) (hgp : ¬ p.mem g) (hbp : ¬ p.mem b2) (hD : Dev w p D) (h0 : 0 ≤ D.c) (h1 : D.c ≤ 998000) (hn : 0 < D.n) :
    Calls Tryz.prog 33 #[.pointer (some ⟨b2, 0, none⟩)] w fun e w' => e = .returned (.int .i64 (D.goE [.wr 0 (markL true)])) ∧ Dev w' p (D.go [.wr 0 (markL true)]) ∧ Kp p.mem w w' := by
  have hwg := write_go D 0 (markL true) hn (whole_len _)
  obtain ⟨E, HE⟩ : ∃ E, Hid (D.goE [.wr 0 (markL true)] = E) := ⟨_, rfl⟩
  obtain ⟨F, HF⟩ : ∃ F, Hid (D.go [.wr 0 (markL true)] = F) := ⟨_, rfl⟩
  rw [HE.out, HF.out] at hwg
  rw [HE.out, HF.out]
  have hms : (⟨(markL true).toArray⟩ : ByteArray).size ≤ maxLen := by
    show (markL true).toArray.size ≤ maxLen
    rw [List.size_toArray, show (markL true).length = 64 from whole_len _]
    unfold maxLen
    omega
  obtain ⟨M, HM⟩ : ∃ M, Hid ((⟨(markL true).toArray⟩ : ByteArray) = M) := ⟨_, rfl⟩
  rw [HM.out] at hms hwg
  obtain ⟨hw1, hw2⟩ := hwg
  rw [show (((0 : Nat) : Int)) = 0 from rfl] at hw1 hw2
  have HW1 := hide hw1
  have HW2 := hide hw2
  clear hw1 hw2
  have hDd := hD.drew
  have t2 : w.drew.cell? ⟨b2, 0, none⟩ = some (.pointer (some ⟨g, 0, none⟩)) := h2
  have t0 : w.drew.cell? ⟨g, 0, none⟩ = some (.pointer (some ⟨p.d, 0, none⟩)) := hc0
  go_enter Tryz.func33, Tryz.ntmps33
  go_upto_region 1 with fail
  go_region_held_law (fun W => W.cell? ⟨b2, 0, none⟩ = some (.pointer (some ⟨g, 0, none⟩)) ∧ W.cell? ⟨g, 0, none⟩ = some (.pointer (some ⟨p.d, 0, none⟩))) (first | assumption | exact ⟨t2, t0⟩) (first
    | (go_at_call 35; refine (mark_any true _).mono ?_; rintro e w1 ⟨rfl, hk1⟩; rw [HM.out]; have T1 : w1.cell? ⟨b2, 0, none⟩ = some (.pointer (some ⟨g, 0, none⟩)) ∧ w1.cell? ⟨g, 0, none⟩ = some (.pointer (some ⟨p.d, 0, none⟩)) := ⟨hk1.cell t2 (fun h => h), hk1.cell t0 (fun h => h)⟩; have hD1 := hDd.keptN hk1)
    | (go_at_call 34; refine (write_any p D 0 M _ hD1 h0 (by omega) hms).mono ?_; rintro e w2 ⟨rfl, hD2, hk2⟩; rw [HW2.out]; rw [HW1.out] at hD2; have T2 : w2.cell? ⟨b2, 0, none⟩ = some (.pointer (some ⟨g, 0, none⟩)) ∧ w2.cell? ⟨g, 0, none⟩ = some (.pointer (some ⟨p.d, 0, none⟩)) := ⟨hk2.cell T1.1 hbp, hk2.cell T1.2 hgp⟩)
    | fail)
  go_wp2
  go_ret
  exact ⟨rfl, hD2, ((Kp.drew p.mem w).thenN hk1).then hk2⟩

end Go.Proofs.YtgfijbbibafdfaaGreat
