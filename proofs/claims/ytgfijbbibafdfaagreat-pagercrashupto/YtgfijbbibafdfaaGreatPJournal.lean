/- Contracts, over the turned program: a pager's settleMark, writeJournal. Conditions: those that each theorem states. -/
import Derived.Test.YtgfijbbibafdfaaGreatPSettle2
import Derived.Test.YtgfijbbibafdfaaGreatDUnsure
namespace Go.Proofs.YtgfijbbibafdfaaGreat
open Go.RowKit
set_option linter.unusedVariables false

set_option maxRecDepth 100000 in
set_option maxHeartbeats 400000 in
theorem index_none (a : Option Addr) (c : Nat) (z : Int) (w : World) : Calls Tryz.prog 65 #[.slice a 0 c, .int .i64 z] w fun e w' => e = .returned (.int .i64 (-1)) ∧ Kp none' w w' := by
  go_enter Tryz.func65, Tryz.ntmps65
  go_wp2
  go_loopw [8] (fun t wr => t = .int .i64 0 ∧ Kp none' w wr) (fun t _ => 0)
  case atStart => exact ⟨rfl, Kp.refl _ _⟩
  case round =>
    obtain ⟨rfl, hK⟩ := hrel
    go_wp2
    go_ret
    exact ⟨rfl, hK⟩
set_option maxRecDepth 100000 in
set_option maxHeartbeats 400000 in
theorem contains_none (a : Option Addr) (c : Nat) (z : Int) (w : World) : Calls Tryz.prog 51 #[.slice a 0 c, .int .i64 z] w fun e w' => e = .returned (.bool false) ∧ Kp none' w w' := by
  go_enter Tryz.func51, Tryz.ntmps51
  go_wp2_with (go_at_call 65; refine (index_none _ _ _ _).mono ?_; rintro e w1 ⟨rfl, hk1⟩)
  go_ret
  exact ⟨rfl, hk1⟩
set_option maxRecDepth 100000 in
set_option maxHeartbeats 400000 in
theorem settleMark_any (g : Nat) (p : Dp) (D : Dv) (w : World) (hc0 : w.cell? ⟨g, 0, none⟩ = some (.pointer (some ⟨p.d, 0, none⟩))) (hD : Dev w p D) (hu : ∀ k, D.u k = none) :
    Calls Tryz.prog 29 #[.pointer (some ⟨g, 0, none⟩)] w fun e w' => e = .returned (.int .i64 0) ∧ Kp none' w w' := by
  have hU : unsI D = [] := by
    unfold unsI unsL
    rw [List.map_eq_nil_iff, List.filter_eq_nil_iff]
    intro k _
    simp [hu]
  go_enter Tryz.func29, Tryz.ntmps29
  go_wp2_with (first
    | (go_at_call 38; refine (unsure_any p D _ hD).mono ?_; rintro e w1 ⟨v, rfl, hO, hk1⟩; rw [hU] at hO; obtain ⟨a, c, rfl, _⟩ := hO.open; rw [show ([] : List Int).length = 0 from rfl])
    | (go_at_call 51; refine (contains_none _ _ _ _).mono ?_; rintro e w2 ⟨rfl, hk2⟩)
    | fail)
  go_ret
  exact ⟨rfl, hk1.then hk2⟩
theorem size_mk64 (x : List UInt8) (h : x.length = 64) : (⟨x.toArray⟩ : ByteArray).size ≤ maxLen := by
  show x.toArray.size ≤ maxLen
  rw [List.size_toArray, h]
  unfold maxLen
  omega
set_option maxRecDepth 100000 in
set_option maxHeartbeats 800000 in
theorem writeJournal_any (g n : Nat) (p : Dp) (D : Dv) (v : Value) (l : List Chg) (w : World) (hc0 : w.cell? ⟨g, 0, none⟩ = some (.pointer (some ⟨p.d, 0, none⟩))) (hgp : ¬ p.mem g) (hD : Dev w p D) (h0 : 0 ≤ D.c) (h1 : D.c ≤ 998000) (hn : 126 + 4 * n ≤ D.n) (hn2 : n ≤ 160)
    (hS : Chs (fun k => ¬ p.mem k) w v l) (hok : okC n l) :
    Calls Tryz.prog 31 #[.pointer (some ⟨g, 0, none⟩), v] w fun e w' => e = .returned (.int .i64 (D.goE (jrW l))) ∧ Dev w' p (D.go (jrW l)) ∧ Kp p.mem w w' := by
  have hm := hok.m
  have hpo := pagesOf_any v l _ w hS (by omega)
  obtain ⟨a, c, rfl, _, _, ha'⟩ := hS
  have ha := hide ha'
  clear ha'
  have hwE := okC_wE hn2 hok
  have hr : i64s (l.map Chg.page) := fun z hz => by
    obtain ⟨x, hx, rfl⟩ := List.mem_map.1 hz
    have := hok.p x hx
    omega
  have hwl : (wB (l.map Chg.page)).length = 64 := by
    unfold wB
    rw [if_pos hwE]
    exact whole_len _
  have hj : jrW l = [.wr 1 (wB (l.map Chg.page))] ++ imW 0 l := rfl
  have hwg := write_go D 1 (wB (l.map Chg.page)) (by omega) hwl
  have hms := size_mk64 _ hwl
  obtain ⟨W, HW⟩ : ∃ W, Hid (wB (l.map Chg.page) = W) := ⟨_, rfl⟩
  obtain ⟨E, HE⟩ : ∃ E, Hid (D.goE (jrW l) = E) := ⟨_, rfl⟩
  obtain ⟨F, HF⟩ : ∃ F, Hid (D.go (jrW l) = F) := ⟨_, rfl⟩
  rw [HE.out, HF.out]
  rw [hj] at HE HF
  rw [HW.out] at HE HF hwg hms
  obtain ⟨st, HST⟩ : ∃ st, Hid (Stp.wr 1 W = st) := ⟨_, rfl⟩
  rw [HST.out] at HE HF hwg
  obtain ⟨M, HM⟩ : ∃ M, Hid ((⟨W.toArray⟩ : ByteArray) = M) := ⟨_, rfl⟩
  rw [HM.out] at hwg hms
  rw [show (((1 : Nat) : Int)) = 1 from rfl] at hwg
  have HWG := hide hwg
  clear hwg hj
  go_enter Tryz.func31, Tryz.ntmps31
  go_upto_region 4 with (first
    | (go_at_call 49; refine hpo.mono ?_; rintro e w1 ⟨u, rfl, hO, hk1⟩; have hSl := hO.sl)
    | (go_at_call 50; refine (uwrite_any _ _ _ _ hSl hr).mono ?_; rintro e w2 ⟨rfl, hk2⟩; rw [hwE, HW.out, HM.out])
    | fail)
  have hks := hk1.then hk2
  have hDs := hD.keptN hks
  have hcs := hks.cell hc0 (fun h => h)
  have hcw := write_any p D 1 M w2 hDs h0 (by omega) hms
  rw [HWG.out.1, HWG.out.2] at hcw
  rcases goE_or [st] D with he | he
  · rw [he] at hcw
    have hgn := go_n [st] D
    have Hgo : Hid (∀ L, D.goE ([st] ++ L) = (D.go [st]).goE L ∧ D.go ([st] ++ L) = (D.go [st]).go L) := fun L => by
      rw [goE_append, go_append, if_pos he, if_pos he]
      exact ⟨rfl, rfl⟩
    rw [(Hgo.out (imW 0 l)).1] at HE
    rw [(Hgo.out (imW 0 l)).2] at HF
    clear Hgo
    have h0' : 0 ≤ (D.go [st]).c := by omega
    have h1' : (D.go [st]).c ≤ 998001 := by have := hgn.2.2.2.2; simp at this; omega
    have hn' : 126 + 4 * n ≤ (D.go [st]).n := by rw [hgn.1]; exact hn
    clear hgn
    generalize D.go [st] = D1 at *
    go_upto_region 7 with (first
      | (go_at_call 34; refine hcw.mono ?_; rintro e w3 ⟨rfl, hD3, hk3⟩)
      | fail)
    have hK3 : Kp p.mem w w3 := hks.nThen hk3
    clear hcw hDs hcs
    go_wp2
    go_loopw [31] (fun t wr => ∃ j : Nat, j ≤ l.length ∧ t = .int .i64 j ∧ D1.goE (imW 0 (l.take j)) = 0 ∧ Dev wr p (D1.go (imW 0 (l.take j))) ∧ Kp p.mem w wr) (fun t _ => l.length - (intOf t).toNat)
    case atStart => exact ⟨0, Nat.zero_le _, rfl, rfl, hD3, hK3⟩
    case round =>
      obtain ⟨j, hj, rfl, hz, hDr, hK⟩ := hrel
      by_cases hlt : j < l.length
      · have hji : (j : Int) < (l.length : Int) := by omega
        obtain ⟨b, o, rfl, hbm, hbl, hq0, hq1⟩ := ha.out j hlt
        have d0 := hK.cell hq0 hbm
        have d1 := hK.cell hq1 hbm
        have hcr := hK.cell hc0 hgp
        have hdr := hok.d l[j] (List.getElem_mem hlt)
        have ht := imW_take l j hlt
        have hall := imW_all l j hlt
        have hgn := go_n (imW 0 (l.take j)) D1
        have hpl := imW_len (l.take j) 0
        have htl : (l.take j).length = j := by rw [List.length_take]; omega
        have hD0 : 0 ≤ (D1.go (imW 0 (l.take j))).c := by omega
        have hD1 : (D1.go (imW 0 (l.take j))).c ≤ 999000 := by omega
        have hnn : ∀ i, i < 4 → imageN j i < (D1.go (imW 0 (l.take j))).n := fun i hi => by rw [hgn.1]; unfold imageN; omega
        have Hok := hide (seq_ok (imW 0 (l.take j)) (pgW (imageN j) l[j].data) D1 hz)
        have Hbad := hide (seq_bad (imW 0 (l.take j)) (pgW (imageN j) l[j].data) (imW (j + 1) (l.drop (j + 1))) D1 hz)
        rw [← ht] at Hok
        rw [← hall, HE.out, HF.out] at Hbad
        have hka := Kp.alloc none' wr (.cells #[.int .i64 l[j].page, .string l[j].data] 56)
        have hv := chg_var wr l[j] 56
        clear ht hall hgn hpl htl hq0 hq1
        generalize l[j].data = x at *
        generalize l[j].page = y at *
        generalize D1.go (imW 0 (l.take j)) = Dj at *
        obtain ⟨wb, Hb⟩ : ∃ wb, Hid (wr.alloc (.cells #[.int .i64 y, .string x] 56) = wb) := ⟨_, rfl⟩
        go_upto_region 10 with fail
        rw [Hb.out]
        rw [Hb.out] at hka hv
        have v1 := hv.2
        generalize wr.heap.size = gg at *
        have hDb := hDr.keptN hka
        have hcb := hka.cell hcr (fun h => h)
        have hc2 := write_image g j x p Dj wb hcb hgp hDb hD0 hD1 hdr (by omega) hnn
        clear hv d0 d1
        rcases goE_or (pgW (imageN j) x) Dj with he | he
        · have HO2 := hide (Hok.out he)
          rw [he] at hc2
          clear Hok Hbad
          go_wp2_with (go_at_call 52; refine hc2.mono ?_; rintro e w4 ⟨rfl, hD4, hk4⟩)
          go_roundw
          case rel => exact ⟨j + 1, by omega, by go_num, HO2.out.1, by rw [HO2.out.2]; exact hD4, (hK.thenN hka).then hk4⟩
          case measure => simp [intOf]; omega
        · have HO2 := hide (Hbad.out (by rw [he]; decide))
          rw [he] at hc2
          clear Hok Hbad
          go_wp2_with (go_at_call 52; refine hc2.mono ?_; rintro e w4 ⟨rfl, hD4, hk4⟩)
          go_ret
          exact ⟨by rw [HO2.out.1]; rfl, by rw [HO2.out.2]; exact hD4, (hK.thenN hka).then hk4⟩
      · obtain rfl : j = l.length := by omega
        rw [List.take_length] at hz hDr
        rw [HE.out] at hz
        rw [HF.out] at hDr
        go_wp2
        go_ret
        exact ⟨by rw [hz]; rfl, hDr, hK⟩
  · rw [he] at hcw
    have Hgo : Hid (D.goE ([st] ++ imW 0 l) = 9 ∧ D.go ([st] ++ imW 0 l) = D.go [st]) := by
      show _ ∧ _
      rw [goE_append, go_append, he, if_neg (by decide), if_neg (by decide)]
      exact ⟨rfl, rfl⟩
    rw [Hgo.out.1] at HE
    rw [Hgo.out.2] at HF
    have hE9 := HE.out
    rw [HF.out] at hcw
    clear Hgo HE
    go_wp2_with (first
      | (go_at_call 34; refine hcw.mono ?_; rintro e w3 ⟨rfl, hD3, hk3⟩)
      | fail)
    go_ret
    exact ⟨by rw [← hE9]; rfl, hD3, hks.nThen hk3⟩

end Go.Proofs.YtgfijbbibafdfaaGreat
