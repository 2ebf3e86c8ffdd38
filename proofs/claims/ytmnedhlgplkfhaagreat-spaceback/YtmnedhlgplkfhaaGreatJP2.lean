/- Contracts, over the turned program: a pager's writePages, writeJournal, settle and its closures. Conditions: those that each theorem states. Contract, over the turned program: a pager's settle. Conditions: those that the theorem states. Contracts, over the turned program: a pager's goBack. Conditions: those that each theorem states. Contracts, over the turned program: pager.Open. Conditions: those that each theorem states. Contracts, over the turned program: a pager's Read. Conditions: those that each theorem states. -/
import Derived.Test.YtmnedhlgplkfhaaGreatJP1
namespace Go.Proofs.YtmnedhlgplkfhaaGreat
open Go.RowKit
set_option linter.unusedVariables false

theorem plW_take (l : List Chg) (k : Nat) (h : k < l.length) : plW (l.take (k + 1)) = plW (l.take k) ++ pgW (placeN l[k].page.toNat) l[k].data := by
  rw [List.take_succ_eq_append_getElem h]
  unfold plW
  rw [List.flatMap_append, List.flatMap_singleton]
theorem plW_all (l : List Chg) (k : Nat) (h : k < l.length) : plW l = plW (l.take k) ++ pgW (placeN l[k].page.toNat) l[k].data ++ plW (l.drop (k + 1)) := by
  rw [← plW_take l k h]
  have e : ∀ a b : List Chg, plW (a ++ b) = plW a ++ plW b := fun a b => by simp [plW]
  rw [← e, List.take_append_drop]
theorem imW_append (a b : List Chg) : ∀ m, imW m (a ++ b) = imW m a ++ imW (m + a.length) b := by
  induction a with
  | nil => intro m; rfl
  | cons c a ih =>
    intro m
    rw [List.cons_append, imW, ih, imW, List.append_assoc, List.length_cons]
    congr 3
    omega
theorem imW_take (l : List Chg) (k : Nat) (h : k < l.length) : imW 0 (l.take (k + 1)) = imW 0 (l.take k) ++ pgW (imageN k) l[k].data := by
  rw [List.take_succ_eq_append_getElem h, imW_append, List.length_take, Nat.zero_add, Nat.min_eq_left (by omega)]
  simp [imW]
theorem imW_all (l : List Chg) (k : Nat) (h : k < l.length) : imW 0 l = imW 0 (l.take k) ++ pgW (imageN k) l[k].data ++ imW (k + 1) (l.drop (k + 1)) := by
  rw [← imW_take l k h]
  have hl : (l.take (k + 1)).length = k + 1 := by rw [List.length_take]; omega
  have e := imW_append (l.take (k + 1)) (l.drop (k + 1)) 0
  rw [List.take_append_drop, hl, Nat.zero_add] at e
  exact e
set_option maxRecDepth 100000 in
set_option maxHeartbeats 800000 in
theorem writePages_any (g n : Nat) (p : Dp) (D : Dv) (v : Value) (l : List Chg) (w : World) (hc0 : w.cell? ⟨g, 0, none⟩ = some (.pointer (some ⟨p.d, 0, none⟩))) (hgp : ¬ p.mem g) (hD : Dev w p D) (h0 : 0 ≤ D.c) (h1 : D.c ≤ 998000) (hn : 126 + 4 * n ≤ D.n) (hn2 : n ≤ 160)
    (hS : Chs (fun k => ¬ p.mem k) w v l) (hok : okC n l) :
    Calls Tryz.prog 123 #[.pointer (some ⟨g, 0, none⟩), v] w fun e w' => e = .returned (.int .i64 (D.goE (plW l))) ∧ Dev w' p (D.go (plW l)) ∧ Kp p.mem w w' := by
  obtain ⟨a, c, rfl, _, _, ha'⟩ := hS
  have ha := hide ha'
  clear ha'
  obtain ⟨E, HE⟩ : ∃ E, Hid (D.goE (plW l) = E) := ⟨_, rfl⟩
  obtain ⟨F, HF⟩ : ∃ F, Hid (D.go (plW l) = F) := ⟨_, rfl⟩
  rw [HE.out, HF.out]
  have hm := hok.m
  go_enter Tryz.func123, Tryz.ntmps123
  go_wp2
  go_loopw [10] (fun t wr => ∃ j : Nat, j ≤ l.length ∧ t = .int .i64 j ∧ D.goE (plW (l.take j)) = 0 ∧ Dev wr p (D.go (plW (l.take j))) ∧ Kp p.mem w wr) (fun t _ => l.length - (intOf t).toNat)
  case atStart => exact ⟨0, Nat.zero_le _, rfl, rfl, hD, Kp.refl _ _⟩
  case round =>
    obtain ⟨j, hj, rfl, hz, hDr, hK⟩ := hrel
    by_cases hlt : j < l.length
    · have hji : (j : Int) < (l.length : Int) := by omega
      obtain ⟨b, o, rfl, hbm, hbl, hq0, hq1⟩ := ha.out j hlt
      have d0 := hK.cell hq0 hbm
      have d1 := hK.cell hq1 hbm
      have hcr := hK.cell hc0 hgp
      have hpr := hok.p l[j] (List.getElem_mem hlt)
      have hdr := hok.d l[j] (List.getElem_mem hlt)
      obtain ⟨q, hq⟩ : ∃ q : Nat, l[j].page = q := ⟨l[j].page.toNat, by omega⟩
      have hqn : q < n := by omega
      have ht := plW_take l j hlt
      have hall := plW_all l j hlt
      have hgn := go_n (plW (l.take j)) D
      have hpl := plW_len (l.take j)
      have htl : (l.take j).length = j := by rw [List.length_take]; omega
      have hD0 : 0 ≤ (D.go (plW (l.take j))).c := by omega
      have hD1 : (D.go (plW (l.take j))).c ≤ 999000 := by omega
      rw [hq] at d0 ht hall
      rw [Int.toNat_natCast] at ht hall
      have hnn : ∀ i, i < 4 → placeN q i < (D.go (plW (l.take j))).n := fun i hi => by rw [hgn.1]; unfold placeN; omega
      have Hok := hide (seq_ok (plW (l.take j)) (pgW (placeN q) l[j].data) D hz)
      have Hbad := hide (seq_bad (plW (l.take j)) (pgW (placeN q) l[j].data) (plW (l.drop (j + 1))) D hz)
      rw [← ht] at Hok
      rw [← hall, HE.out, HF.out] at Hbad
      have hka := Kp.alloc none' wr (.cells #[.int .i64 (q : Int), .string l[j].data] 76)
      have hv := chg_var wr ⟨q, l[j].data⟩ 76
      clear ht hall hgn hpl htl hpr hq hq0 hq1
      generalize l[j].data = x at *
      generalize D.go (plW (l.take j)) = Dj at *
      obtain ⟨wb, Hb⟩ : ∃ wb, Hid (wr.alloc (.cells #[.int .i64 (q : Int), .string x] 76) = wb) := ⟨_, rfl⟩
      go_upto_region 4 with fail
      rw [Hb.out]
      rw [show (wr.alloc (.cells #[.int .i64 (⟨q, x⟩ : Chg).page, .string (⟨q, x⟩ : Chg).data] 76)) = wr.alloc (.cells #[.int .i64 (q : Int), .string x] 76) from rfl, Hb.out] at hv
      rw [Hb.out] at hka
      have v0 : wb.cell? ⟨wr.heap.size, 0, none⟩ = some (.int .i64 (q : Int)) := hv.1
      have v1 : wb.cell? ⟨wr.heap.size, 1, none⟩ = some (.string x) := hv.2
      generalize wr.heap.size = gg at *
      have hDb := hDr.keptN hka
      have hcb := hka.cell hcr (fun h => h)
      have hc2 := write_place g q x p Dj wb hcb hgp hDb hD0 hD1 hdr (by omega) hnn
      clear hv d0 d1
      rcases goE_or (pgW (placeN q) x) Dj with he | he
      · have HO2 := hide (Hok.out he)
        rw [he] at hc2
        clear Hok Hbad
        go_wp2_with (go_at_call 118; refine hc2.mono ?_; rintro e w2 ⟨rfl, hD3, hk3⟩)
        go_roundw
        case rel => exact ⟨j + 1, by omega, by go_num, HO2.out.1, by rw [HO2.out.2]; exact hD3, (hK.thenN hka).then hk3⟩
        case measure => simp [intOf]; omega
      · have HO2 := hide (Hbad.out (by rw [he]; decide))
        rw [he] at hc2
        clear Hok Hbad
        go_wp2_with (go_at_call 118; refine hc2.mono ?_; rintro e w2 ⟨rfl, hD3, hk3⟩)
        go_ret
        exact ⟨by rw [HO2.out.1]; rfl, by rw [HO2.out.2]; exact hD3, (hK.thenN hka).then hk3⟩
    · obtain rfl : j = l.length := by omega
      rw [List.take_length] at hz hDr
      rw [HE.out] at hz
      rw [HF.out] at hDr
      go_wp2
      go_ret
      exact ⟨by rw [hz]; rfl, hDr, hK⟩

set_option maxRecDepth 100000 in
set_option maxHeartbeats 400000 in
theorem settle1_any (b2 b3 g n : Nat) (p : Dp) (D : Dv) (v : Value) (l : List Chg) (w : World) (h2 : w.cell? ⟨b2, 0, none⟩ = some (.pointer (some ⟨g, 0, none⟩))) (h3 : w.cell? ⟨b3, 0, none⟩ = some v)
    (hc0 : w.cell? ⟨g, 0, none⟩ = some (.pointer (some ⟨p.d, 0, none⟩))) (hgp : ¬ p.mem g) (hD : Dev w p D) (h0 : 0 ≤ D.c) (h1 : D.c ≤ 998000) (hn : 126 + 4 * n ≤ D.n) (hn2 : n ≤ 160)
    (hS : Chs (fun k => ¬ p.mem k) w v l) (hok : okC n l) :
    Calls Tryz.prog 122 #[.pointer (some ⟨b2, 0, none⟩), .pointer (some ⟨b3, 0, none⟩)] w fun e w' => e = .returned (.int .i64 (D.goE (plW l))) ∧ Dev w' p (D.go (plW l)) ∧ Kp p.mem w w' := by
  have hc := writePages_any g n p D v l w hc0 hgp hD h0 h1 hn hn2 hS hok
  obtain ⟨a, c, rfl⟩ := hS.shape
  go_enter Tryz.func122, Tryz.ntmps122
  go_wp2_with (go_at_call 123; refine hc.mono ?_; rintro e w2 ⟨rfl, hD3, hk3⟩)
  go_ret
  exact ⟨rfl, hD3, hk3⟩
set_option maxRecDepth 100000 in
set_option maxHeartbeats 400000 in
theorem settle2_any (b2 g : Nat) (p : Dp) (D : Dv) (w : World) (h2 : w.cell? ⟨b2, 0, none⟩ = some (.pointer (some ⟨g, 0, none⟩)))
    (hc0 : w.cell? ⟨g, 0, none⟩ = some (.pointer (some ⟨p.d, 0, none⟩))) (hgp : ¬ p.mem g) (hbp : ¬ p.mem b2) (hD : Dev w p D) (h0 : 0 ≤ D.c) (h1 : D.c ≤ 998000) (hn : 0 < D.n) :
    Calls Tryz.prog 124 #[.pointer (some ⟨b2, 0, none⟩)] w fun e w' => e = .returned (.int .i64 (D.goE [.wr 0 (markL false)])) ∧ Dev w' p (D.go [.wr 0 (markL false)]) ∧ Kp p.mem w w' := by
  have hwg := write_go D 0 (markL false) hn (whole_len _)
  obtain ⟨E, HE⟩ : ∃ E, Hid (D.goE [.wr 0 (markL false)] = E) := ⟨_, rfl⟩
  obtain ⟨F, HF⟩ : ∃ F, Hid (D.go [.wr 0 (markL false)] = F) := ⟨_, rfl⟩
  rw [HE.out, HF.out] at hwg
  rw [HE.out, HF.out]
  have hms : (⟨(markL false).toArray⟩ : ByteArray).size ≤ maxLen := by
    show (markL false).toArray.size ≤ maxLen
    rw [List.size_toArray, show (markL false).length = 64 from whole_len _]
    unfold maxLen
    omega
  obtain ⟨M, HM⟩ : ∃ M, Hid ((⟨(markL false).toArray⟩ : ByteArray) = M) := ⟨_, rfl⟩
  rw [HM.out] at hms hwg
  obtain ⟨hw1, hw2⟩ := hwg
  rw [show (((0 : Nat) : Int)) = 0 from rfl] at hw1 hw2
  have HW1 := hide hw1
  have HW2 := hide hw2
  clear hw1 hw2
  have hDd := hD.drew
  have t2 : w.drew.cell? ⟨b2, 0, none⟩ = some (.pointer (some ⟨g, 0, none⟩)) := h2
  have t0 : w.drew.cell? ⟨g, 0, none⟩ = some (.pointer (some ⟨p.d, 0, none⟩)) := hc0
  go_enter Tryz.func124, Tryz.ntmps124
  go_upto_region 1 with fail
  go_region_held_law (fun W => W.cell? ⟨b2, 0, none⟩ = some (.pointer (some ⟨g, 0, none⟩)) ∧ W.cell? ⟨g, 0, none⟩ = some (.pointer (some ⟨p.d, 0, none⟩))) (first | assumption | exact ⟨t2, t0⟩) (first
    | (go_at_call 100; refine (mark_any false _).mono ?_; rintro e w1 ⟨rfl, hk1⟩; rw [HM.out]; have T1 : w1.cell? ⟨b2, 0, none⟩ = some (.pointer (some ⟨g, 0, none⟩)) ∧ w1.cell? ⟨g, 0, none⟩ = some (.pointer (some ⟨p.d, 0, none⟩)) := ⟨hk1.cell t2 (fun h => h), hk1.cell t0 (fun h => h)⟩; have hD1 := hDd.keptN hk1)
    | (go_at_call 99; refine (write_any p D 0 M _ hD1 h0 (by omega) hms).mono ?_; rintro e w2 ⟨rfl, hD2, hk2⟩; rw [HW2.out]; rw [HW1.out] at hD2; have T2 : w2.cell? ⟨b2, 0, none⟩ = some (.pointer (some ⟨g, 0, none⟩)) ∧ w2.cell? ⟨g, 0, none⟩ = some (.pointer (some ⟨p.d, 0, none⟩)) := ⟨hk2.cell T1.1 hbp, hk2.cell T1.2 hgp⟩)
    | fail)
  go_wp2
  go_ret
  exact ⟨rfl, hD2, ((Kp.drew p.mem w).thenN hk1).then hk2⟩
set_option maxRecDepth 100000 in
set_option maxHeartbeats 400000 in
theorem commit2_any (b2 g : Nat) (p : Dp) (D : Dv) (w : World) (h2 : w.cell? ⟨b2, 0, none⟩ = some (.pointer (some ⟨g, 0, none⟩)))
    (hc0 : w.cell? ⟨g, 0, none⟩ = some (.pointer (some ⟨p.d, 0, none⟩))) (hgp : ¬ p.mem g) (hbp : ¬ p.mem b2) (hD : Dev w p D) (h0 : 0 ≤ D.c) (h1 : D.c ≤ 998000) (hn : 0 < D.n) :
    Calls Tryz.prog 98 #[.pointer (some ⟨b2, 0, none⟩)] w fun e w' => e = .returned (.int .i64 (D.goE [.wr 0 (markL true)])) ∧ Dev w' p (D.go [.wr 0 (markL true)]) ∧ Kp p.mem w w' := by
  have hwg := write_go D 0 (markL true) hn (whole_len _)
  obtain ⟨E, HE⟩ : ∃ E, Hid (D.goE [.wr 0 (markL true)] = E) := ⟨_, rfl⟩
  obtain ⟨F, HF⟩ : ∃ F, Hid (D.go [.wr 0 (markL true)] = F) := ⟨_, rfl⟩
  rw [HE.out, HF.out] at hwg
  rw [HE.out, HF.out]
  have hms : (⟨(markL true).toArray⟩ : ByteArray).size ≤ maxLen := by
    show (markL true).toArray.size ≤ maxLen
    rw [List.size_toArray, show (markL true).length = 64 from whole_len _]
    unfold maxLen
    omega
  obtain ⟨M, HM⟩ : ∃ M, Hid ((⟨(markL true).toArray⟩ : ByteArray) = M) := ⟨_, rfl⟩
  rw [HM.out] at hms hwg
  obtain ⟨hw1, hw2⟩ := hwg
  rw [show (((0 : Nat) : Int)) = 0 from rfl] at hw1 hw2
  have HW1 := hide hw1
  have HW2 := hide hw2
  clear hw1 hw2
  have hDd := hD.drew
  have t2 : w.drew.cell? ⟨b2, 0, none⟩ = some (.pointer (some ⟨g, 0, none⟩)) := h2
  have t0 : w.drew.cell? ⟨g, 0, none⟩ = some (.pointer (some ⟨p.d, 0, none⟩)) := hc0
  go_enter Tryz.func98, Tryz.ntmps98
  go_upto_region 1 with fail
  go_region_held_law (fun W => W.cell? ⟨b2, 0, none⟩ = some (.pointer (some ⟨g, 0, none⟩)) ∧ W.cell? ⟨g, 0, none⟩ = some (.pointer (some ⟨p.d, 0, none⟩))) (first | assumption | exact ⟨t2, t0⟩) (first
    | (go_at_call 100; refine (mark_any true _).mono ?_; rintro e w1 ⟨rfl, hk1⟩; rw [HM.out]; have T1 : w1.cell? ⟨b2, 0, none⟩ = some (.pointer (some ⟨g, 0, none⟩)) ∧ w1.cell? ⟨g, 0, none⟩ = some (.pointer (some ⟨p.d, 0, none⟩)) := ⟨hk1.cell t2 (fun h => h), hk1.cell t0 (fun h => h)⟩; have hD1 := hDd.keptN hk1)
    | (go_at_call 99; refine (write_any p D 0 M _ hD1 h0 (by omega) hms).mono ?_; rintro e w2 ⟨rfl, hD2, hk2⟩; rw [HW2.out]; rw [HW1.out] at hD2; have T2 : w2.cell? ⟨b2, 0, none⟩ = some (.pointer (some ⟨g, 0, none⟩)) ∧ w2.cell? ⟨g, 0, none⟩ = some (.pointer (some ⟨p.d, 0, none⟩)) := ⟨hk2.cell T1.1 hbp, hk2.cell T1.2 hgp⟩)
    | fail)
  go_wp2
  go_ret
  exact ⟨rfl, hD2, ((Kp.drew p.mem w).thenN hk1).then hk2⟩

end Go.Proofs.YtmnedhlgplkfhaaGreat

namespace Go.Proofs.YtmnedhlgplkfhaaGreat
open Go.RowKit
set_option linter.unusedVariables false

/-- An operation of a region that yields in every world that meets S is taken first; its slot written out. -/
theorem take_at {P : Program} {md : Region.Mode} {ops : Array Oper} {Q : Exit → Act → World → Prop} {S : World → Prop} {i d : Nat} {oi : Oper} {v : Value} {fuel : Nat} {listed : Array Bool} {a : Act} {w : World} (hi : ops[i]? = some oi) (hd : oi.dst = some d)
    (hs : Region.noSelect ops = true) (hf : Region.free md ops listed i = true) (hr : (Region.ready md ops listed).contains i = true)
    (hQ : ∀ c a w, Q (.panic c) (a.put oi.dst v) w → Q (.panic c) a w) (hy : YieldsIf P ops S oi v a) (hS : S w)
    (h : wpAnyH P md ops Q S fuel (listed.setIfInBounds i true) (a.put (some d) v) w) : wpAnyH P md ops Q S (fuel + 1) listed a w :=
  wpAnyH_take hi hs hf hr hQ hy hS (by rw [hd]; exact h)
/-- The cells of a new row. -/
theorem row_cells (w : World) (fs : List Value) (t : TypeId) (k : Nat) (h : k < fs.length) : (w.alloc (.cells fs.toArray t)).drew.cell? ⟨w.heap.size, k, none⟩ = some fs[k] := by
  have hb : (w.alloc (.cells fs.toArray t)).heap[w.heap.size]? = some (.cells fs.toArray t (0, 0)) := heap_alloc_new w _
  show (w.alloc (.cells fs.toArray t)).cell? ⟨w.heap.size, k, none⟩ = _
  rw [cell_of_row _ _ _ _ _ _ hb]
  simp [h]
theorem sync_doer (M : Int) (N : Nat) (hM : M ≤ 990000) (p : Dp) (w : World) : Doer (fun _ => True) M N p w (.func (.func 97) #[.pointer (some ⟨p.d, 0, none⟩)] #[]) [.sy] :=
  ⟨_, _, _, rfl, enters_of Tryz.func97 (by kernel_rfl) rfl, fun W D hk hD hN _ h0 h1 => by
    rw [show (#[Value.pointer (some ⟨p.d, 0, none⟩)] ++ #[] : Array Value) = #[Value.pointer (some ⟨p.d, 0, none⟩)] by simp]
    have h := sync_any p D W hD h0 (by omega)
    rw [(sync_go D).1, (sync_go D).2] at h
    exact h⟩
theorem Doer.kept {H : Dv → Prop} {M : Int} {N : Nat} {p : Dp} {w W : World} {f : Value} {L : List Stp} (h : Doer H M N p w f L) (hk : Kp p.mem w W) : Doer H M N p W f L := by
  obtain ⟨m, fst, cap, h1, h2, h3⟩ := h.fn
  exact ⟨m, fst, cap, h1, h2, fun W' D hk' hD hN hH h0 h1 => h3 W' D (hk.then hk') hD hN hH h0 h1⟩
theorem Doer.less {H H' : Dv → Prop} {M : Int} {N : Nat} {p : Dp} {w : World} {f : Value} {L : List Stp} (h : Doer H M N p w f L) (hH : ∀ D, H' D → H D) : Doer H' M N p w f L := by
  obtain ⟨m, fst, cap, h1, h2, h3⟩ := h.fn
  exact ⟨m, fst, cap, h1, h2, fun W' D hk' hD hN hH' h0 h1 => h3 W' D hk' hD hN (hH D hH') h0 h1⟩
/-- Each of the functions does its steps. -/
def Doers (M : Int) (N : Nat) (p : Dp) (w : World) : List Value → List (List Stp) → Prop
  | [], [] => True
  | f :: fs, L :: Ls => Doer (fun _ => True) M N p w f L ∧ Doers M N p w fs Ls
  | _, _ => False
theorem Doers.nil {M : Int} {N : Nat} {p : Dp} {w : World} : Doers M N p w [] [] := trivial
theorem Doers.cons {M : Int} {N : Nat} {p : Dp} {w : World} {f : Value} {L : List Stp} {fs : List Value} {Ls : List (List Stp)} (h : Doer (fun _ => True) M N p w f L) (h' : Doers M N p w fs Ls) : Doers M N p w (f :: fs) (L :: Ls) := ⟨h, h'⟩
theorem Doers.at {M : Int} {N : Nat} {p : Dp} {w : World} : ∀ {fs : List Value} {Ls : List (List Stp)} (h : Doers M N p w fs Ls), fs.length = Ls.length ∧ ∀ k (h : k < fs.length) (h' : k < Ls.length), Doer (fun _ => True) M N p w fs[k] Ls[k]
  | [], [], _ => ⟨rfl, fun k h => absurd h (by simp)⟩
  | f :: fs, L :: Ls, h => by
    have ih := Doers.at (fs := fs) (Ls := Ls) h.2
    refine ⟨by simp [ih.1], fun k h1 h2 => ?_⟩
    rcases k with _ | k
    · exact h.1
    · exact ih.2 k (by simpa using h1) (by simpa using h2)
  | [], _ :: _, h => False.elim h
  | _ :: _, [], h => False.elim h
theorem turn_new (M : Int) (N : Nat) (p : Dp) (D : Dv) (f : Value) (fs : List Value) (L0 : List Stp) (Ls : List (List Stp)) (L : List Stp) (w : World) (t : TypeId) (hD : Dev w p D) (hN : D.n = N) (h0 : 0 ≤ D.c) (hL : (L0 :: Ls).flatten = L) (h1 : D.c + L.length ≤ M) (hl6 : fs.length ≤ 5)
    (hf0 : Doer (fun D' => D' = D) M N p w f L0) (hf : Doers M N p w fs Ls) :
    Calls Tryz.prog 93 #[.slice (some ⟨w.heap.size, 0, none⟩) (f :: fs).length (f :: fs).length] (w.alloc (.cells (f :: fs).toArray t)).drew fun e w' => e = .returned (.int .i64 (D.goE L)) ∧ Dev w' p (D.go L) ∧ Kp p.mem w w' := by
  subst hL
  have hk : Kp none' w (w.alloc (.cells (f :: fs).toArray t)).drew := (Kp.alloc none' w _).then (Kp.drew _ _)
  have hrow := row_cells w (f :: fs) t
  have hbs : ¬ p.mem w.heap.size := fun h => by have := hD.lt _ h; omega
  generalize (w.alloc (.cells (f :: fs).toArray t)).drew = wb at *
  have hkm : Kp p.mem w wb := hk.mono (fun _ _ h => h.elim)
  exact (inTurn_any M N p D w.heap.size (f :: fs).length (f :: fs) (L0 :: Ls) wb (hD.keptN hk) hN h0 h1 hbs (by simp [hf.at.1]) (by simpa using hl6) hrow (fun k h h' => by
    rcases k with _ | k
    · exact (hf0.kept hkm).less (fun D' hD' => hD' rfl)
    · exact ((hf.at.2 k (by simpa using h) (by simpa using h')).kept hkm).less (fun _ _ => trivial))).mono (fun e w' h => ⟨h.1, h.2.1, hk.nThen h.2.2⟩)
theorem settle1_doer (b2 b3 g n N : Nat) (hN : 126 + 4 * n ≤ N) (p : Dp) (v : Value) (l : List Chg) (w : World) (h2 : w.cell? ⟨b2, 0, none⟩ = some (.pointer (some ⟨g, 0, none⟩))) (h3 : w.cell? ⟨b3, 0, none⟩ = some v)
    (hc0 : w.cell? ⟨g, 0, none⟩ = some (.pointer (some ⟨p.d, 0, none⟩))) (hgp : ¬ p.mem g) (hb2 : ¬ p.mem b2) (hb3 : ¬ p.mem b3) (hn2 : n ≤ 160)
    (hS : Chs (fun k => ¬ p.mem k) w v l) (hok : okC n l) : Doer (fun _ => True) 990000 N p w (.func (.func 122) #[] #[.pointer (some ⟨b2, 0, none⟩), .pointer (some ⟨b3, 0, none⟩)]) (plW l) := by
  refine ⟨_, _, _, rfl, enters_of Tryz.func122 (by kernel_rfl) rfl, fun W D hk hD hN' _ h0 h1 => ?_⟩
  rw [show (#[] ++ #[Value.pointer (some ⟨b2, 0, none⟩), Value.pointer (some ⟨b3, 0, none⟩)] : Array Value) = #[Value.pointer (some ⟨b2, 0, none⟩), Value.pointer (some ⟨b3, 0, none⟩)] by simp]
  exact settle1_any b2 b3 g n p D v l W (hk.cell h2 hb2) (hk.cell h3 hb3) (hk.cell hc0 hgp) hgp hD h0 (by omega) (by omega) hn2 (hS.kept hk (fun _ h => h)) hok

theorem mark_doer {b : Bool} {m : Nat} (hen : Enters Tryz.prog m) (hc : ∀ (b2 g : Nat) (p : Dp) (D : Dv) (w : World) (h2 : w.cell? ⟨b2, 0, none⟩ = some (.pointer (some ⟨g, 0, none⟩)))
    (hc0 : w.cell? ⟨g, 0, none⟩ = some (.pointer (some ⟨p.d, 0, none⟩))) (hgp : ¬ p.mem g) (hbp : ¬ p.mem b2) (hD : Dev w p D) (h0 : 0 ≤ D.c) (h1 : D.c ≤ 998000) (hn : 0 < D.n),
    Calls Tryz.prog m #[.pointer (some ⟨b2, 0, none⟩)] w fun e w' => e = .returned (.int .i64 (D.goE [.wr 0 (markL b)])) ∧ Dev w' p (D.go [.wr 0 (markL b)]) ∧ Kp p.mem w w')
    (M : Int) (hM : M ≤ 990000) (b2 g N : Nat) (hN : 0 < N) (p : Dp) (w : World) (h2 : w.cell? ⟨b2, 0, none⟩ = some (.pointer (some ⟨g, 0, none⟩))) (hc0 : w.cell? ⟨g, 0, none⟩ = some (.pointer (some ⟨p.d, 0, none⟩))) (hgp : ¬ p.mem g) (hb2 : ¬ p.mem b2) :
    Doer (fun _ => True) M N p w (.func (.func m) #[] #[.pointer (some ⟨b2, 0, none⟩)]) [.wr 0 (markL b)] := by
  refine ⟨_, _, _, rfl, hen, fun W D hk hD hN' _ h0 h1 => ?_⟩
  rw [show (#[] ++ #[Value.pointer (some ⟨b2, 0, none⟩)] : Array Value) = #[Value.pointer (some ⟨b2, 0, none⟩)] by simp]
  exact hc b2 g p D W (hk.cell h2 hb2) (hk.cell hc0 hgp) hgp hb2 hD h0 (by omega) (by omega)
set_option maxRecDepth 100000 in
set_option maxHeartbeats 1600000 in
theorem psettle_any (g n : Nat) (p : Dp) (D : Dv) (v : Value) (l : List Chg) (w : World) (hc0 : w.cell? ⟨g, 0, none⟩ = some (.pointer (some ⟨p.d, 0, none⟩))) (hgp : ¬ p.mem g) (hD : Dev w p D) (h0 : 0 ≤ D.c) (h1 : D.c ≤ 980000) (hn : 126 + 4 * n ≤ D.n) (hn2 : n ≤ 160)
    (hS : Chs (fun k => ¬ p.mem k) w v l) (hok : okC n l) :
    Calls Tryz.prog 102 #[.pointer (some ⟨g, 0, none⟩), v] w fun e w' => e = .returned (.int .i64 (D.goE (stW l))) ∧ Dev w' p (D.go (stW l)) ∧ Kp p.mem w w' := by
  obtain ⟨a, c, hv⟩ := hS.shape
  have hg := lt_of_cell hc0
  have hlt0 := hD.lt
  have ka : Kp none' w ((w.alloc (.cells #[.pointer (some ⟨g, 0, none⟩)] 79)).alloc (.cells #[v] 73)) := (Kp.alloc none' w _).then (Kp.alloc none' _ _)
  have c2 : ((w.alloc (.cells #[.pointer (some ⟨g, 0, none⟩)] 79)).alloc (.cells #[v] 73)).cell? ⟨w.heap.size, 0, none⟩ = some (.pointer (some ⟨g, 0, none⟩)) :=
    (Kp.alloc none' _ _).cell (by rw [cell_of_row _ _ _ _ _ _ (heap_alloc_new w _)]; rfl) (fun h => h)
  have c3 : ((w.alloc (.cells #[.pointer (some ⟨g, 0, none⟩)] 79)).alloc (.cells #[v] 73)).cell? ⟨w.heap.size + 1, 0, none⟩ = some v := by
    have := heap_alloc_new (w.alloc (.cells #[.pointer (some ⟨g, 0, none⟩)] 79)) (.cells #[v] 73)
    rw [show (w.alloc (.cells #[.pointer (some ⟨g, 0, none⟩)] 79)).heap.size = w.heap.size + 1 by simp] at this
    rw [cell_of_row _ _ _ _ _ _ this]
    rfl
  obtain ⟨wa, Ha⟩ : ∃ wa, Hid ((w.alloc (.cells #[.pointer (some ⟨g, 0, none⟩)] 79)).alloc (.cells #[v] 73) = wa) := ⟨_, rfl⟩
  rw [Ha.out] at ka c2 c3
  subst hv
  go_enter Tryz.func102, Tryz.ntmps102
  go_upto_region 1 with fail
  rw [Ha.out]
  have hb2 : ¬ p.mem w.heap.size := fun h => by have := hlt0 _ h; omega
  have hb3 : ¬ p.mem (w.heap.size + 1) := fun h => by have := hlt0 _ h; omega
  generalize w.heap.size = b2 at *
  have t2 : wa.drew.cell? ⟨b2, 0, none⟩ = some (.pointer (some ⟨g, 0, none⟩)) := c2
  have t0 : wa.drew.cell? ⟨g, 0, none⟩ = some (.pointer (some ⟨p.d, 0, none⟩)) := ka.cell hc0 (fun h => h)
  have kA : ∀ (W : World) o, W.cell? ⟨b2, 0, none⟩ = some (.pointer (some ⟨g, 0, none⟩)) ∧ W.cell? ⟨g, 0, none⟩ = some (.pointer (some ⟨p.d, 0, none⟩)) → (W.alloc o).cell? ⟨b2, 0, none⟩ = some (.pointer (some ⟨g, 0, none⟩)) ∧ (W.alloc o).cell? ⟨g, 0, none⟩ = some (.pointer (some ⟨p.d, 0, none⟩)) := fun W o h => ⟨(Kp.alloc none' W o).cell h.1 (fun h => h), (Kp.alloc none' W o).cell h.2 (fun h => h)⟩
  have HT : Hid (Calls Tryz.prog 93 #[.slice (some ⟨wa.heap.size, 0, none⟩) 4 4] (wa.alloc (.cells #[.func (.func 122) #[] #[.pointer (some ⟨b2, 0, none⟩), .pointer (some ⟨b2 + 1, 0, none⟩)],
      .func (.func 97) #[.pointer (some ⟨p.d, 0, none⟩)] #[], .func (.func 124) #[] #[.pointer (some ⟨b2, 0, none⟩)], .func (.func 97) #[.pointer (some ⟨p.d, 0, none⟩)] #[]] 59)).drew
      fun e w' => e = .returned (.int .i64 (D.goE (stW l))) ∧ Dev w' p (D.go (stW l)) ∧ Kp p.mem wa w') := by
    have hlen := stW_len l
    have hm := hok.m
    exact turn_new 990000 D.n p D _ [_, _, _] (plW l) [[.sy], [.wr 0 (markL false)], [.sy]] (stW l) wa _ (hD.keptN ka) rfl h0 (by simp [stW]) (by omega) (by simp)
      ((settle1_doer b2 (b2 + 1) g n D.n hn p _ l wa c2 c3 (ka.cell hc0 (fun h => h)) hgp hb2 hb3 hn2 (hS.keptN ka) hok).less (fun _ _ => trivial)) (.cons (sync_doer 990000 _ (by omega) p wa)
        (.cons (mark_doer (enters_of Tryz.func124 (by kernel_rfl) rfl) settle2_any 990000 (by omega) b2 g D.n (by omega) p wa c2 (ka.cell hc0 (fun h => h)) hgp hb2) (.cons (sync_doer 990000 _ (by omega) p wa) .nil)))
  clear kA
  refine wp_region_held_drew (S := fun W => W.cell? ⟨b2, 0, none⟩ = some (.pointer (some ⟨g, 0, none⟩)) ∧ W.cell? ⟨g, 0, none⟩ = some (.pointer (some ⟨p.d, 0, none⟩))) (by kernel_rfl) ⟨t2, t0⟩ (fun hHeld => ?_)
  refine take_at (i := 0) (d := 5) (v := ?_) rfl rfl (by kernel_rfl) (by kernel_rfl) (by kernel_rfl) (fun _ _ _ h => h) (Or.inl ⟨by rfl, ?_⟩) (by assumption) ?_
  rotate_left
  · intro W hSW
    try dsimp only at hSW
    go_simp
    try with_reducible rfl
  simp only [Act.put, List.setIfInBounds_toArray, List.set_cons_zero, List.set_cons_succ]
  refine take_at (i := 1) (d := 6) (v := ?_) rfl rfl (by kernel_rfl) (by kernel_rfl) (by kernel_rfl) (fun _ _ _ h => h) (Or.inl ⟨by rfl, ?_⟩) (by assumption) ?_
  rotate_left
  · intro W hSW
    try dsimp only at hSW
    go_simp
    try with_reducible rfl
  simp only [Act.put, List.setIfInBounds_toArray, List.set_cons_zero, List.set_cons_succ]
  refine take_at (i := 2) (d := 7) (v := ?_) rfl rfl (by kernel_rfl) (by kernel_rfl) (by kernel_rfl) (fun _ _ _ h => h) (Or.inl ⟨by rfl, ?_⟩) (by assumption) ?_
  rotate_left
  · intro W hSW
    try dsimp only at hSW
    go_simp
    try with_reducible rfl
  simp only [Act.put, List.setIfInBounds_toArray, List.set_cons_zero, List.set_cons_succ]
  refine take_at (i := 3) (d := 8) (v := ?_) rfl rfl (by kernel_rfl) (by kernel_rfl) (by kernel_rfl) (fun _ _ _ h => h) (Or.inl ⟨by rfl, ?_⟩) (by assumption) ?_
  rotate_left
  · intro W hSW
    try dsimp only at hSW
    go_simp
    try with_reducible rfl
  simp only [Act.put, List.setIfInBounds_toArray, List.set_cons_zero, List.set_cons_succ]
  refine take_at (i := 4) (d := 9) (v := ?_) rfl rfl (by kernel_rfl) (by kernel_rfl) (by kernel_rfl) (fun _ _ _ h => h) (Or.inl ⟨by rfl, ?_⟩) (by assumption) ?_
  rotate_left
  · intro W hSW
    try dsimp only at hSW
    go_simp
    try with_reducible rfl
  simp only [Act.put, List.setIfInBounds_toArray, List.set_cons_zero, List.set_cons_succ]
  refine take_at (i := 5) (d := 10) (v := ?_) rfl rfl (by kernel_rfl) (by kernel_rfl) (by kernel_rfl) (fun _ _ _ h => h) (Or.inl ⟨by rfl, ?_⟩) (by assumption) ?_
  rotate_left
  · intro W hSW
    try dsimp only at hSW
    go_simp
    try with_reducible rfl
  simp only [Act.put, List.setIfInBounds_toArray, List.set_cons_zero, List.set_cons_succ]
  refine take_at (i := 6) (d := 11) (v := ?_) rfl rfl (by kernel_rfl) (by kernel_rfl) (by kernel_rfl) (fun _ _ _ h => h) (Or.inl ⟨by rfl, ?_⟩) (by assumption) ?_
  rotate_left
  · intro W hSW
    try dsimp only at hSW
    go_simp
    try with_reducible rfl
  simp only [Act.put, List.setIfInBounds_toArray, List.set_cons_zero, List.set_cons_succ]
  refine take_at (i := 7) (d := 12) (v := ?_) rfl rfl (by kernel_rfl) (by kernel_rfl) (by kernel_rfl) (fun _ _ _ h => h) (Or.inl ⟨by rfl, ?_⟩) (by assumption) ?_
  rotate_left
  · intro W hSW
    try dsimp only at hSW
    go_simp
    try with_reducible rfl
  simp only [Act.put, List.setIfInBounds_toArray, List.set_cons_zero, List.set_cons_succ]
  refine take_at (i := 8) (d := 13) (v := ?_) rfl rfl (by kernel_rfl) (by kernel_rfl) (by kernel_rfl) (fun _ _ _ h => h) (Or.inl ⟨by rfl, ?_⟩) (by assumption) ?_
  rotate_left
  · intro W hSW
    try dsimp only at hSW
    go_simp
    try with_reducible rfl
  simp only [Act.put, List.setIfInBounds_toArray, List.set_cons_zero, List.set_cons_succ]
  refine take_at (i := 9) (d := 14) (v := ?_) rfl rfl (by kernel_rfl) (by kernel_rfl) (by kernel_rfl) (fun _ _ _ h => h) (Or.inl ⟨by rfl, ?_⟩) (by assumption) ?_
  rotate_left
  · intro W hSW
    try dsimp only at hSW
    go_simp
    try with_reducible rfl
  simp only [Act.put, List.setIfInBounds_toArray, List.set_cons_zero, List.set_cons_succ]
  refine take_at (i := 10) (d := 15) (v := ?_) rfl rfl (by kernel_rfl) (by kernel_rfl) (by kernel_rfl) (fun _ _ _ h => h) (Or.inl ⟨by rfl, ?_⟩) (by assumption) ?_
  rotate_left
  · intro W hSW
    try dsimp only at hSW
    go_simp
    try with_reducible rfl
  simp only [Act.put, List.setIfInBounds_toArray, List.set_cons_zero, List.set_cons_succ]
  refine take_at (i := 11) (d := 16) (v := ?_) rfl rfl (by kernel_rfl) (by kernel_rfl) (by kernel_rfl) (fun _ _ _ h => h) (Or.inl ⟨by rfl, ?_⟩) (by assumption) ?_
  rotate_left
  · intro W hSW
    try dsimp only at hSW
    go_simp
    try with_reducible rfl
  simp only [Act.put, List.setIfInBounds_toArray, List.set_cons_zero, List.set_cons_succ]
  refine wpAnyH_ready (rs := [12]) (by kernel_rfl) (by simp) ?_
  refine AllReadyH.cons rfl (fun K hK => ?_) AllReadyH.nil
  go_simp
  refine hK.out _ _ ⟨(Kp.alloc none' wa _).cell c2 (fun h => h), (Kp.alloc none' wa _).cell (ka.cell hc0 (fun h => h)) (fun h => h)⟩ (fun hHeld => ?_)
  clear hK K
  refine wpAnyH_ready (rs := [13]) (by kernel_rfl) (by simp) ?_
  refine AllReadyH.cons rfl (fun K hK => ?_) AllReadyH.nil
  go_simp
  go_wp2_with (go_at_call 93; refine HT.out.mono ?_; rintro e w2 ⟨rfl, hD2, hk2⟩)
  refine hK.out _ _ (⟨hk2.cell c2 hb2, hk2.cell (ka.cell hc0 (fun h => h)) hgp⟩) (fun hHeld => ?_)
  clear hK K
  refine take_at (i := 14) (d := 4) (v := ?_) rfl rfl (by kernel_rfl) (by kernel_rfl) (by kernel_rfl) (fun _ _ _ h => h) (Or.inl ⟨by rfl, ?_⟩) (by assumption) ?_
  rotate_left
  · intro W hSW
    try dsimp only at hSW
    go_simp
    try with_reducible rfl
  simp only [Act.put, List.setIfInBounds_toArray, List.set_cons_zero, List.set_cons_succ]
  refine wpAnyH_done (by kernel_rfl) ?_ _
  go_wp2
  go_ret
  exact ⟨rfl, hD2, ka.nThen hk2⟩

end Go.Proofs.YtmnedhlgplkfhaaGreat

namespace Go.Proofs.YtmnedhlgplkfhaaGreat
open Go.RowKit
set_option linter.unusedVariables false

theorem infoChg : (Tryz.prog.info? 76).map (fun i => (i.zero, i.size, i.bytes)) = some (some (.agg #[.int .i64 0, .string ByteArray.empty]), 2, 24) := by kernel_rfl
theorem infoChg2 : (Tryz.prog.info? 76).map (·.size) = some 2 := by kernel_rfl
def chg0 : Chg := ⟨0, ByteArray.empty⟩
theorem made_chgs (n : Nat) : (madeCells #[Value.int .i64 0, .string ByteArray.empty] (n * 2)).toList = ccs (List.replicate n chg0) := by
  refine List.ext_getElem? fun i => ?_
  by_cases h : i < n * 2
  · have e := ccs_at (List.replicate n chg0) (i / 2) (i % 2) (by rw [List.length_replicate]; omega) (by omega)
    rw [show i / 2 * 2 + i % 2 = i by omega] at e
    rw [e, List.getElem_replicate, Array.getElem?_toList]
    unfold madeCells
    rw [Array.getElem?_map, Array.getElem?_range, if_pos h]
    have hm : i % 2 = 0 ∨ i % 2 = 1 := by omega
    rcases hm with h0 | h0 <;> simp [h0, Chg.cells, chg0]
  · rw [List.getElem?_eq_none (by rw [Array.length_toList, size_madeCells]; omega), List.getElem?_eq_none (by rw [ccs_len, List.length_replicate]; omega)]
/-- make([]Change, n). -/
theorem make_chgs (w : World) (n : Nat) (hn : n ≤ 1000000) : ∃ wa, (Instr.makeSlice 73 (.int .i64 n) (.int .i64 n)).run Tryz.prog w = .ok (.slice (some ⟨w.heap.size, 0, none⟩) n n) wa ∧ OwC 76 wa w.heap.size (.slice (some ⟨w.heap.size, 0, none⟩) n n) (List.replicate n chg0) ∧ Kp none' w wa := by
  obtain ⟨i0, hi, hz0, hz1, hz2⟩ := info_parts infoChg
  obtain ⟨wa, hmk, hOa, hga⟩ := run_make_full (P := Tryz.prog) w w.heap.size 73 76 i0 _ 2 Tryz.underlying73 hi hz0 hz1 .i64 .i64 n (by rw [hz2]; omega) (by unfold maxLen; omega) (Nat.le_refl _)
  refine ⟨wa, hmk, ?_, Kp.ofN hga _⟩
  unfold OwC
  rw [List.length_replicate, ← made_chgs]
  exact hOa
theorem set_nextC (pre : List Chg) (m : Nat) (x : Chg) : (pre ++ List.replicate (m + 1) chg0).set pre.length x = (pre ++ [x]) ++ List.replicate m chg0 := by
  rw [List.set_append_right _ _ (Nat.le_refl _), Nat.sub_self, List.replicate_succ, List.set_cons_zero, List.append_assoc]
  rfl

/-- What a journal says that is there. -/
def imgD (D : Dv) (L : List Int) : List Chg := L.mapIdx fun k z => ⟨z, lookS D (imageN k)⟩
theorem imgD_len (D : Dv) (L : List Int) : (imgD D L).length = L.length := by simp [imgD]
theorem imgD_at (D : Dv) (L : List Int) (k : Nat) (h : k < L.length) : (imgD D L)[k]'(by rw [imgD_len]; exact h) = ⟨L[k], lookS D (imageN k)⟩ := by simp [imgD]
theorem imgD_take (D : Dv) (L : List Int) (k : Nat) (h : k < L.length) : (imgD D L).take (k + 1) = (imgD D L).take k ++ [⟨L[k], lookS D (imageN k)⟩] := by
  rw [List.take_succ_eq_append_getElem (by rw [imgD_len]; exact h), imgD_at D L k h]
theorem imgD_pages (D : Dv) (L : List Int) : (imgD D L).map Chg.page = L := by
  refine List.ext_getElem (by rw [List.length_map, imgD_len]) fun k h1 h2 => ?_
  rw [List.getElem_map, imgD_at D L k h2]
theorem catB_four (D : Dv) (f : Nat → Nat) (h : ∀ j, j < 4 → (D.at (f j)).length = 64) : (lookS D f).size = 256 := by
  have hs : ∀ s ∈ lkL D f 4, s.size = 64 := fun s hs => by
    obtain ⟨j, hj, rfl⟩ := List.mem_map.1 hs
    show (D.at (f j)).toArray.size = 64
    rw [List.size_toArray]
    exact h j (by simpa using hj)
  have ho : okJ (lkL D f 4) = true := by
    unfold okJ
    simp only [decide_eq_true_eq]
    exact ⟨lkL_len D f 4, hs⟩
  unfold lookS joinS
  rw [if_pos ho]
  show (catB (lkL D f 4)).toArray.size = 256
  rw [List.size_toArray, catB_len _ hs, lkL_len]
theorem Dev.atl {w : World} {p : Dp} {D : Dv} (h : Dev w p D) (k : Nat) (hk : k < D.n) : (D.at k).length = 64 := by
  unfold Dv.at
  cases hu : D.u k with
  | none => exact h.l1 k hk
  | some x => exact (h.l2 k x hu).2
theorem imgD_ok {w : World} {p : Dp} {D : Dv} {n : Nat} (h : Dev w p D) (hn : 126 ≤ D.n) {x : List UInt8} (he : dirE x = 0) (ha : allB n (dirL x) = true) : okC n (imgD D (dirL x)) := by
  have h2 := wE_ok (read_ok (s := mkA x) he).1
  have hl : (dirL x).length ≤ 31 := h2.1
  have hnd : (dirL x).Nodup := by
    have := h2.2
    unfold okP at this
    simp only [decide_eq_true_eq] at this
    exact this.2
  have hA : ∀ z ∈ dirL x, hasB n z = true := by
    unfold allB at ha
    rw [List.all_eq_true] at ha
    exact ha
  refine ⟨fun c hc => ?_, fun c hc => ?_, by rw [imgD_pages]; exact hnd, by rw [imgD_len]; exact hl⟩
  · have : c.page ∈ dirL x := by rw [← imgD_pages D (dirL x)]; exact List.mem_map_of_mem hc
    have := hA _ this
    simpa [hasB] using this
  · obtain ⟨k, hk, rfl⟩ := List.getElem_of_mem hc
    rw [imgD_len] at hk
    rw [imgD_at D _ k hk]
    exact catB_four D _ (fun j hj => h.atl _ (by unfold imageN; omega))
/-- Recovering: which steps; and what it answers. -/
def Dv.back (D : Dv) (n : Nat) : Dv := if says (D.at 0) = true ∧ dirE (D.at 1) = 0 ∧ allB n (dirL (D.at 1)) = true then D.go (stW (imgD D (dirL (D.at 1)))) else D
def Dv.backE (D : Dv) (n : Nat) : Int := if says (D.at 0) = true then (if dirE (D.at 1) = 0 ∧ allB n (dirL (D.at 1)) = true then D.goE (stW (imgD D (dirL (D.at 1)))) else 10) else 0

theorem size_mkA (x : List UInt8) (h : x.length = 64) : (mkA x).size ≤ maxLen := by
  show x.toArray.size ≤ maxLen
  rw [List.size_toArray, h]
  unfold maxLen
  omega
set_option maxRecDepth 100000 in
set_option maxHeartbeats 1600000 in
theorem goBack_any (g n : Nat) (p : Dp) (D : Dv) (c : Int) (bv : Value) (bl : List Chg) (w : World) (hP : Pag w g p n c bv bl) (hD : Dev w p D) (h0 : 0 ≤ D.c) (h1 : D.c ≤ 980000) (hn : 126 + 4 * n ≤ D.n) (hn2 : n ≤ 160) :
    Calls Tryz.prog 78 #[.pointer (some ⟨g, 0, none⟩)] w fun e w' => e = .returned (.int .i64 (D.backE n)) ∧ Dev w' p (D.back n) ∧ Kp p.mem w w' := by
  have hc0 := hP.c0
  have hgp := hP.gp
  have HR0 : Hid (rdL D 0 = D.at 0) := rdL_in D 0 (by omega)
  have HR1 : Hid (rdL D 1 = D.at 1) := rdL_in D 1 (by omega)
  have Hl0 : Hid ((D.at 0).length = 64) := hD.atl 0 (by omega)
  have Hl1 : Hid ((D.at 1).length = 64) := hD.atl 1 (by omega)
  have HS0 : Hid (saysB ⟨(D.at 0).toArray⟩ = says (D.at 0)) := rfl
  cases hsy : says (D.at 0) with
  | false =>
    have hB : D.back n = D := by unfold Dv.back; rw [hsy]; simp
    have hE : D.backE n = 0 := by unfold Dv.backE; rw [hsy]; simp
    rw [hB, hE]
    rw [hsy] at HS0
    go_enter Tryz.func78, Tryz.ntmps78
    go_wp2_with (first
      | (go_at_call 82; refine (read_any p D _ _ hD).mono ?_; rintro e w1 ⟨rfl, hk1⟩; rw [HR0.out])
      | (go_at_call 103; refine (marked_any _ _).mono ?_; rintro e w' ⟨rfl, rfl⟩; rw [HS0.out])
      | fail)
    go_ret
    exact ⟨rfl, hD.keptN hk1, hk1.mono (fun _ _ h => h.elim)⟩
  | true =>
    rw [hsy] at HS0
    have HE1 : Hid (rE ⟨(D.at 1).toArray⟩ = dirE (D.at 1)) := rfl
    have HL1 : Hid (rL ⟨(D.at 1).toArray⟩ = dirL (D.at 1)) := rfl
    have hlen : (dirL (D.at 1)).length ≤ 255 := rL_len _
    by_cases hde : dirE (D.at 1) = 0
    · cases hall : allB n (dirL (D.at 1)) with
      | false =>
        have hB : D.back n = D := by unfold Dv.back; rw [hall]; simp
        have hE : D.backE n = 10 := by unfold Dv.backE; rw [hsy, hall]; simp
        rw [hB, hE]
        rw [hde] at HE1
        have HALL := hide hall
        clear hall hB hE hde
        go_enter Tryz.func78, Tryz.ntmps78
        go_upto_region 3 with (first
          | (go_at_call 82; refine (read_any p D _ _ hD).mono ?_; rintro e w1 ⟨rfl, hk1⟩; rw [HR0.out])
          | (go_at_call 103; refine (marked_any _ _).mono ?_; rintro e w' ⟨rfl, rfl⟩; rw [HS0.out])
          | fail)
        have hD1 := hD.keptN hk1
        have hc1 := hk1.cell hc0 (fun h => h)
        go_upto_region 4 with (first
          | (go_at_call 82; refine (read_any p D _ _ hD1).mono ?_; rintro e w2 ⟨rfl, hk2⟩; rw [HR1.out])
          | (go_at_call 104; refine (uread_any ⟨(D.at 1).toArray⟩ _ (size_mkA _ Hl1.out)).mono ?_; rintro e w3 ⟨v, rfl, hO, hk3⟩; rw [HE1.out]; rw [HL1.out] at hO)
          | fail)
        have hks := (hk1.then hk2).then hk3
        have hq1 := hks.cell hP.c1 (fun h => h)
        have hSl := hO.sl
        go_wp2_with (first
          | (go_at_call 105; refine (hasAll_any g n _ _ _ _ hq1 hSl (by omega)).mono ?_; rintro e w4 ⟨rfl, hk4⟩; rw [HALL.out])
          | fail)
        go_ret
        exact ⟨rfl, hD.keptN (hks.then hk4), (hks.then hk4).mono (fun _ _ h => h.elim)⟩
      | true =>
        have hB : D.back n = D.go (stW (imgD D (dirL (D.at 1)))) := by unfold Dv.back; rw [if_pos ⟨hsy, hde, hall⟩]
        have hE : D.backE n = D.goE (stW (imgD D (dirL (D.at 1)))) := by unfold Dv.backE; rw [if_pos hsy, if_pos ⟨hde, hall⟩]
        have hok := imgD_ok hD (by omega) hde hall
        rw [hB, hE]
        rw [hde] at HE1
        have HALL := hide hall
        obtain ⟨E, HE⟩ : ∃ E, Hid (D.goE (stW (imgD D (dirL (D.at 1)))) = E) := ⟨_, rfl⟩
        obtain ⟨F, HF⟩ : ∃ F, Hid (D.go (stW (imgD D (dirL (D.at 1)))) = F) := ⟨_, rfl⟩
        rw [HE.out, HF.out]
        have hm31 : (dirL (D.at 1)).length ≤ 31 := by rw [← imgD_len D]; exact hok.m
        clear hall hB hE hde hlen
        obtain ⟨L, HLL⟩ : ∃ L, Hid (dirL (D.at 1) = L) := ⟨_, rfl⟩
        rw [HLL.out] at HL1 HALL HE HF hok hm31
        go_enter Tryz.func78, Tryz.ntmps78
        go_upto_region 3 with (first
          | (go_at_call 82; refine (read_any p D _ _ hD).mono ?_; rintro e w1 ⟨rfl, hk1⟩; rw [HR0.out])
          | (go_at_call 103; refine (marked_any _ _).mono ?_; rintro e w' ⟨rfl, rfl⟩; rw [HS0.out])
          | fail)
        have hD1 := hD.keptN hk1
        have hc1 := hk1.cell hc0 (fun h => h)
        go_upto_region 4 with (first
          | (go_at_call 82; refine (read_any p D _ _ hD1).mono ?_; rintro e w2 ⟨rfl, hk2⟩; rw [HR1.out])
          | (go_at_call 104; refine (uread_any ⟨(D.at 1).toArray⟩ _ (size_mkA _ Hl1.out)).mono ?_; rintro e w3 ⟨v, rfl, hO, hk3⟩; rw [HE1.out]; rw [HL1.out] at hO)
          | fail)
        have hks := (hk1.then hk2).then hk3
        have hq1 := hks.cell hP.c1 (fun h => h)
        have hSl := hO.sl
        obtain ⟨a, cc, rfl, hcl⟩ := hO.open
        have HCL := hide hcl
        clear hcl hD1 hc1 hk1 hk2 hk3
        go_upto_region 6 with (first
          | (go_at_call 105; refine (hasAll_any g n _ _ _ _ hq1 hSl (by omega)).mono ?_; rintro e w4 ⟨rfl, hk4⟩; rw [HALL.out])
          | fail)
        obtain ⟨wa, hmk, hOC, hka⟩ := make_chgs w4 L.length (by omega)
        have hkw : Kp none' w wa := (hks.then hk4).then hka
        have hk3a : Kp none' w3 wa := hk4.then hka
        have hsz : w.heap.size ≤ w4.heap.size := (hks.then hk4).size
        obtain ⟨B, HB⟩ : ∃ B, Hid (w4.heap.size = B) := ⟨_, rfl⟩
        rw [HB.out] at hmk hOC hsz
        clear hka
        go_upto_region 7 with (at_make; refine wpList_make_at rfl (.tmp 33) (.tmp 33) 73 rfl _ _ rfl rfl hmk ?_)
        clear hmk
        go_wp2
        go_loopw [37] (fun t wr => ∃ k : Nat, k ≤ L.length ∧ t = .int .i64 k ∧ OwC 76 wr B (.slice (some ⟨B, 0, none⟩) L.length L.length) ((imgD D L).take k ++ List.replicate (L.length - k) chg0) ∧ Kp none' w wr ∧ Kp none' w3 wr) (fun t _ => L.length - (intOf t).toNat)
        case atStart => exact ⟨0, Nat.zero_le _, rfl, by simpa using hOC, hkw, hk3a⟩
        case round =>
          obtain ⟨k, hk, rfl, hOr, hKw, hK3⟩ := hrel
          clear hOC hkw hk3a
          by_cases hlt : k < L.length
          · have hki : (k : Int) < (L.length : Int) := by omega
            obtain ⟨b, rfl, hb, hc⟩ := HCL.out k hlt
            have d0 := hK3.cell hc (fun h => h)
            have hcr := hKw.cell hc0 (fun h => h)
            have hDr := hD.keptN hKw
            have HTK := hide (imgD_take D L k hlt)
            have HTL : Hid (((imgD D L).take k).length = k) := by show _ = _; rw [List.length_take, imgD_len]; omega
            obtain ⟨m, hm⟩ : ∃ m, L.length - k = m + 1 := ⟨L.length - k - 1, by omega⟩
            have Hm : Hid (L.length - (k + 1) = m) := by show _ = _; omega
            rw [hm] at hOr
            have hlk := look_image g k p D wr hcr hDr (by omega) (fun j hj => by unfold imageN; omega)
            obtain ⟨X, HX⟩ : ∃ X, Hid (lookS D (imageN k) = X) := ⟨_, rfl⟩
            rw [HX.out] at hlk HTK
            generalize L[k] = z at *
            have hkl : k < ((imgD D L).take k ++ List.replicate (m + 1) chg0).length := by rw [List.length_append, HTL.out, List.length_replicate]; omega
            clear hc
            go_upto_region 10 with fail
            go_upto_region 11 with (first
              | (go_at_call 69; refine hlk.mono ?_; rintro e w5 ⟨rfl, hk5⟩; have hO5 := hOr.keptN hk5; obtain ⟨x0, x1, y0, y1, y2, y3⟩ := hO5.facts k hkl (.int .i64 z))
              | fail)
            have hst := hO5.stored k hkl ⟨z, X⟩
            have e1 := set_nextC ((imgD D L).take k) m ⟨z, X⟩
            rw [HTL.out] at e1
            rw [e1, ← HTK.out] at hst
            have HST := hide hst
            have HKK := hide (Kp.ofGrown hst.2 (S := only B) (fun k he _ => by cases he; rfl))
            obtain ⟨w6, H6⟩ : ∃ w6, Hid ((w5.setCell ⟨B, k * 2, none⟩ (.int .i64 z)).setCell ⟨B, k * 2 + 1, none⟩ (.string X) = w6) := ⟨_, rfl⟩
            rw [H6.out]
            rw [show w5.setCells B (k * 2) (⟨z, X⟩ : Chg).cells = (w5.setCell ⟨B, k * 2, none⟩ (.int .i64 z)).setCell ⟨B, k * 2 + 1, none⟩ (.string X) from rfl] at HST HKK
            rw [H6.out] at HST HKK
            have hB3 : w3.heap.size ≤ B := by have := hk4.size; have := HB.out; omega
            clear hst e1 hO5 y0 y1 y2 y3
            go_wp2
            go_roundw
            case rel => exact ⟨k + 1, by omega, by go_num, by rw [Hm.out]; exact HST.out.1, (hKw.then hk5).trans HKK.out (fun _ _ h => h) (fun j hj he => absurd hj (by unfold only at he; omega)), (hK3.then hk5).trans HKK.out (fun _ _ h => h) (fun j hj he => absurd hj (by unfold only at he; omega))⟩
            case measure => simp [intOf]; omega
          · obtain rfl : k = L.length := by omega
            have hfull : (imgD D L).take L.length ++ List.replicate (L.length - L.length) chg0 = imgD D L := by rw [Nat.sub_self, List.take_of_length_le (by rw [imgD_len]; exact Nat.le_refl _)]; simp
            rw [hfull] at hOr
            have hDr := hD.keptN hKw
            have hCh : Chs (fun k => ¬ p.mem k) wr (.slice (some ⟨B, 0, none⟩) L.length L.length) (imgD D L) := hOr.chs.mono (fun j _ hj hm => by have := hD.lt j hm; omega)
            have hcs := psettle_any g n p D _ (imgD D L) wr (hKw.cell hc0 (fun h => h)) hgp hDr h0 h1 hn hn2 hCh hok
            rw [HE.out, HF.out] at hcs
            go_wp2_with (go_at_call 102; refine hcs.mono ?_; rintro e w5 ⟨rfl, hD5, hk5⟩)
            go_ret
            exact ⟨rfl, hD5, hKw.nThen hk5⟩
    · have hde10 : dirE (D.at 1) = 10 := (rE_bad (s := mkA (D.at 1)) hde).1
      have hB : D.back n = D := by unfold Dv.back; rw [if_neg (fun h => hde h.2.1)]
      have hE : D.backE n = 10 := by unfold Dv.backE; rw [if_pos hsy, if_neg (fun h => hde h.1)]
      rw [hB, hE]
      rw [hde10] at HE1
      clear hB hE hde hde10
      go_enter Tryz.func78, Tryz.ntmps78
      go_upto_region 3 with (first
        | (go_at_call 82; refine (read_any p D _ _ hD).mono ?_; rintro e w1 ⟨rfl, hk1⟩; rw [HR0.out])
        | (go_at_call 103; refine (marked_any _ _).mono ?_; rintro e w' ⟨rfl, rfl⟩; rw [HS0.out])
        | fail)
      have hD1 := hD.keptN hk1
      have hc1 := hk1.cell hc0 (fun h => h)
      go_upto_region 4 with (first
        | (go_at_call 82; refine (read_any p D _ _ hD1).mono ?_; rintro e w2 ⟨rfl, hk2⟩; rw [HR1.out])
        | (go_at_call 104; refine (uread_any ⟨(D.at 1).toArray⟩ _ (size_mkA _ Hl1.out)).mono ?_; rintro e w3 ⟨v, rfl, hO, hk3⟩; rw [HE1.out])
        | fail)
      have hks := (hk1.then hk2).then hk3
      go_wp2
      go_ret
      exact ⟨rfl, hD.keptN hks, hks.mono (fun _ _ h => h.elim)⟩

end Go.Proofs.YtmnedhlgplkfhaaGreat

namespace Go.Proofs.YtmnedhlgplkfhaaGreat
open Go.RowKit
set_option linter.unusedVariables false

set_option maxRecDepth 100000 in
set_option maxHeartbeats 400000 in
theorem open_nil (n : Int) (w : World) : Calls Tryz.prog 58 #[.pointer none, .int .i64 n] w fun e w' => e = .returned (.tuple #[.pointer none, .int .i64 1]) ∧ w' = w := by
  go_enter Tryz.func58, Tryz.ntmps58
  go_wp2
  go_ret2
  exact ⟨rfl, rfl⟩
set_option maxRecDepth 100000 in
set_option maxHeartbeats 400000 in
theorem open_bad (p : Dp) (D : Dv) (n : Int) (w : World) (hD : Dev w p D) (h : n < 1 ∨ 160 < n ∨ (D.n : Int) < 126 + 4 * n) :
    Calls Tryz.prog 58 #[.pointer (some ⟨p.d, 0, none⟩), .int .i64 n] w fun e w' => e = .returned (.tuple #[.pointer none, .int .i64 1]) ∧ w' = w := by
  by_cases h1 : n < 1
  · go_enter Tryz.func58, Tryz.ntmps58
    go_wp2
    go_ret2
    exact ⟨rfl, rfl⟩
  · by_cases h2 : 160 < n
    · have h1' : ¬ n < 1 := h1
      go_enter Tryz.func58, Tryz.ntmps58
      go_wp2
      go_ret2
      exact ⟨rfl, rfl⟩
    · have h3 : (D.n : Int) < 126 + 4 * n := by omega
      have HW : Hid (wrap64 (126 + 4 * n) = 126 + 4 * n) := by show _ = _; unfold wrap64; omega
      go_enter Tryz.func58, Tryz.ntmps58
      go_wp2_with (first
        | (go_at_call 77; refine (size_any _ _ _ hD).mono ?_; rintro e w' ⟨rfl, rfl⟩)
        | (go_at_call 60; refine (need_any _ _).mono ?_; rintro e w' ⟨rfl, rfl⟩; rw [HW.out])
        | fail)
      go_ret2
      exact ⟨rfl, rfl⟩
/-- A pager's cells, new. -/
theorem pag_new (w : World) (p : Dp) (D : Dv) (n : Nat) (hD : Dev w p D) : Pag (w.alloc (.cells #[.pointer (some ⟨p.d, 0, none⟩), .int .i64 n, .int .i64 0, .slice none 0 0] 103)) w.heap.size p n 0 (.slice none 0 0) [] := by
  have hb := heap_alloc_new w (.cells #[.pointer (some ⟨p.d, 0, none⟩), .int .i64 (n : Int), .int .i64 0, .slice none 0 0] 103)
  refine ⟨by rw [cell_of_row _ _ _ _ _ _ hb]; rfl, by rw [cell_of_row _ _ _ _ _ _ hb]; rfl, by rw [cell_of_row _ _ _ _ _ _ hb]; rfl, by rw [cell_of_row _ _ _ _ _ _ hb]; rfl, fun j => ?_, Chs.nil _ _, fun h => ?_⟩
  · unfold World.frozen?
    rw [show (w.alloc (.cells #[.pointer (some ⟨p.d, 0, none⟩), .int .i64 (n : Int), .int .i64 0, .slice none 0 0] 103)).heap[(⟨w.heap.size, j, none⟩ : Addr).block]? = _ from hb]
    simp
  · have := hD.lt _ h
    omega
set_option maxRecDepth 100000 in
set_option maxHeartbeats 400000 in
theorem open_any (p : Dp) (D : Dv) (n : Nat) (w : World) (hD : Dev w p D) (h0 : 0 ≤ D.c) (h1 : D.c ≤ 980000) (hn1 : 1 ≤ n) (hn : 126 + 4 * n ≤ D.n) (hn2 : n ≤ 160) :
    Calls Tryz.prog 58 #[.pointer (some ⟨p.d, 0, none⟩), .int .i64 n] w fun e w' => ∃ pv, e = .returned (.tuple #[pv, .int .i64 (D.backE n)]) ∧ Dev w' p (D.back n) ∧ Kp p.mem w w' ∧
      (D.backE n = 0 → ∃ g, pv = .pointer (some ⟨g, 0, none⟩) ∧ Pag w' g p n 0 (.slice none 0 0) [] ∧ w.heap.size ≤ g) ∧ (D.backE n ≠ 0 → pv = .pointer none) := by
  have hi1 : ¬ (n : Int) < 1 := by omega
  have hi2 : ¬ (160 : Int) < (n : Int) := by omega
  have hi3 : ¬ (D.n : Int) < 126 + 4 * (n : Int) := by omega
  have HW : Hid (wrap64 (126 + 4 * (n : Int)) = 126 + 4 * (n : Int)) := by show _ = _; unfold wrap64; omega
  have hPn := pag_new w p D n hD
  have hka := Kp.alloc none' w (.cells #[.pointer (some ⟨p.d, 0, none⟩), .int .i64 (n : Int), .int .i64 0, .slice none 0 0] 103)
  obtain ⟨wa, Ha⟩ : ∃ wa, Hid (w.alloc (.cells #[.pointer (some ⟨p.d, 0, none⟩), .int .i64 (n : Int), .int .i64 0, .slice none 0 0] 103) = wa) := ⟨_, rfl⟩
  rw [Ha.out] at hPn hka
  have hgb := goBack_any w.heap.size n p D 0 _ [] wa hPn (hD.keptN hka) h0 h1 hn hn2
  obtain ⟨F, HF⟩ : ∃ F, Hid (D.back n = F) := ⟨_, rfl⟩
  obtain ⟨E, HE⟩ : ∃ E, Hid (D.backE n = E) := ⟨_, rfl⟩
  rw [HE.out, HF.out] at hgb ⊢
  obtain ⟨gg, HG⟩ : ∃ gg, Hid (w.heap.size = gg) := ⟨_, rfl⟩
  rw [HG.out] at hPn hgb
  by_cases hE : E = 0
  · have hE' : (E != 0) = false := by simp [hE]
    go_enter Tryz.func58, Tryz.ntmps58
    go_upto_region 4 with (first
      | (go_at_call 77; refine (size_any _ _ _ hD).mono ?_; rintro e w' ⟨rfl, rfl⟩)
      | (go_at_call 60; refine (need_any _ _).mono ?_; rintro e w' ⟨rfl, rfl⟩; rw [HW.out])
      | fail)
    rw [Ha.out, HG.out]
    go_wp2_with (go_at_call 78; refine hgb.mono ?_; rintro e w2 ⟨rfl, hD2, hk2⟩)
    go_ret2
    exact ⟨_, by rw [hE]; rfl, hD2, hka.nThen hk2, fun _ => ⟨gg, rfl, hPn.kept hk2, by have := HG.out; omega⟩, fun h => absurd hE h⟩
  · have hE' : (E != 0) = true := by simp [hE]
    go_enter Tryz.func58, Tryz.ntmps58
    go_upto_region 4 with (first
      | (go_at_call 77; refine (size_any _ _ _ hD).mono ?_; rintro e w' ⟨rfl, rfl⟩)
      | (go_at_call 60; refine (need_any _ _).mono ?_; rintro e w' ⟨rfl, rfl⟩; rw [HW.out])
      | fail)
    rw [Ha.out, HG.out]
    go_wp2_with (go_at_call 78; refine hgb.mono ?_; rintro e w2 ⟨rfl, hD2, hk2⟩)
    go_ret2
    exact ⟨_, rfl, hD2, hka.nThen hk2, fun h => absurd h hE, fun _ => rfl⟩

end Go.Proofs.YtmnedhlgplkfhaaGreat

namespace Go.Proofs.YtmnedhlgplkfhaaGreat
open Go.RowKit
set_option linter.unusedVariables false

set_option maxHeartbeats 400000 in
theorem pread_nil (n : Int) (w : World) : Calls Tryz.prog 49 #[.pointer none, .int .i64 n] w fun e w' => e = .returned (.tuple #[.string ⟨#[]⟩, .int .i64 1]) ∧ w' = w := by
  go_enter Tryz.func49, Tryz.ntmps49
  go_wp2
  go_ret2
  exact ⟨rfl, rfl⟩
/-- What a pager tells of a page. -/
def rdP (D : Dv) (bl : List Chg) (k : Nat) : ByteArray := match bl.find? (fun c => c.page == (k : Int)) with
  | some c => c.data
  | none => lookS D (placeN k)
set_option maxRecDepth 100000 in
set_option maxHeartbeats 800000 in
theorem pread_any (g n k : Nat) (p : Dp) (D : Dv) (c : Int) (bv : Value) (bl : List Chg) (w : World) (hP : Pag w g p n c bv bl) (hD : Dev w p D) (hk : k < n) (hn : 126 + 4 * n ≤ D.n) (hn2 : n ≤ 160) (hbl : bl.length ≤ 1000) :
    Calls Tryz.prog 49 #[.pointer (some ⟨g, 0, none⟩), .int .i64 k] w fun e w' => e = .returned (.tuple #[.string (rdP D bl k), .int .i64 0]) ∧ Kp none' w w' := by
  have hc0 := hP.c0
  have hc1 := hP.c1
  have hc3 := hP.c3
  obtain ⟨a, cc, rfl, _, _, ha'⟩ := hP.bs
  have ha := hide ha'
  clear ha'
  have hB : hasB n (k : Int) = true := by simp [hasB]; omega
  obtain ⟨X, HX⟩ : ∃ X, Hid (rdP D bl k = X) := ⟨_, rfl⟩
  rw [HX.out]
  have Hfind : Hid (∀ j (hj : j < bl.length), (∀ c ∈ bl.take j, (c.page == (k : Int)) = false) → bl[j].page = (k : Int) → bl[j].data = X) := fun j hj hA he => by
    rw [← HX.out]
    unfold rdP
    have e1 : bl = bl.take j ++ bl[j] :: bl.drop (j + 1) := by rw [← List.drop_eq_getElem_cons hj, List.take_append_drop]
    have e2 : bl.find? (fun c => c.page == (k : Int)) = some bl[j] := by
      rw [List.find?_eq_some_iff_append]
      exact ⟨by simp [he], bl.take j, bl.drop (j + 1), e1, fun c hc => by simp [hA c hc]⟩
    rw [e2]
  have Hnone : Hid ((∀ c ∈ bl, (c.page == (k : Int)) = false) → lookS D (placeN k) = X) := fun hA => by
    rw [← HX.out]
    unfold rdP
    have e2 : bl.find? (fun c => c.page == (k : Int)) = none := by
      rw [List.find?_eq_none]
      intro c hc
      simp [hA c hc]
    rw [e2]
  go_enter Tryz.func49, Tryz.ntmps49
  go_upto_region 5 with (go_at_call 68; refine (phas_any _ _ _ _ hc1).mono ?_; rintro e w' ⟨rfl, rfl⟩; rw [hB])
  go_wp2
  go_loopw [19] (fun t wr => ∃ j : Nat, j ≤ bl.length ∧ t = .int .i64 j ∧ (∀ c ∈ bl.take j, (c.page == (k : Int)) = false) ∧ Kp none' w' wr) (fun t _ => bl.length - (intOf t).toNat)
  case atStart => exact ⟨0, Nat.zero_le _, rfl, by simp, Kp.refl _ _⟩
  case round =>
    obtain ⟨j, hj, rfl, hA, hK⟩ := hrel
    by_cases hlt : j < bl.length
    · have hji : (j : Int) < (bl.length : Int) := by omega
      obtain ⟨b, o, rfl, hbm, hbl2, hq0, hq1⟩ := ha.out j hlt
      have d0 := hK.cell hq0 (fun h => h)
      have d1 := hK.cell hq1 (fun h => h)
      have HT := hide (List.take_succ_eq_append_getElem hlt)
      have HF := hide (Hfind.out j hlt hA)
      have hv := chg_var wr bl[j] 76
      have hka := Kp.alloc none' wr (.cells #[.int .i64 bl[j].page, .string bl[j].data] 76)
      have HA := hide hA
      clear hA hq0 hq1
      generalize bl[j] = x at *
      obtain ⟨wb, Hb⟩ : ∃ wb, Hid (wr.alloc (.cells #[.int .i64 x.page, .string x.data] 76) = wb) := ⟨_, rfl⟩
      go_upto_region 8 with fail
      rw [Hb.out]
      rw [Hb.out] at hv hka
      have v0 := hv.1
      have v1 := hv.2
      generalize wr.heap.size = gg at *
      clear hv d0 d1
      by_cases he : x.page = (k : Int)
      · have hE := HF.out he
        rw [he] at v0
        rw [hE] at v1
        go_wp2
        go_ret2
        exact ⟨rfl, hK.then hka⟩
      · have hne : (x.page == (k : Int)) = false := by simpa using he
        go_wp2
        go_roundw
        case rel =>
          refine ⟨j + 1, by omega, by go_num, ?_, hK.then hka⟩
          rw [HT.out]
          intro c hc
          rcases List.mem_append.1 hc with hc | hc
          · exact HA.out c hc
          · rw [List.mem_singleton.1 hc]; exact hne
        case measure => simp [intOf]; omega
    · obtain rfl : j = bl.length := by omega
      rw [List.take_length] at hA
      have hlk := look_place g k p D wr (hK.cell hc0 (fun h => h)) (hD.keptN hK) (by omega) (fun j hj => by unfold placeN; omega)
      rw [Hnone.out hA] at hlk
      go_wp2_with (go_at_call 69; refine hlk.mono ?_; rintro e w5 ⟨rfl, hk5⟩)
      go_ret2
      exact ⟨rfl, hK.then hk5⟩

end Go.Proofs.YtmnedhlgplkfhaaGreat
