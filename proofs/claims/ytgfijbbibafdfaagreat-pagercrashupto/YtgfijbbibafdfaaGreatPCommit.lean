/- Contracts, over the turned program: a pager's Commit and its closures. Conditions: those that each theorem states. -/
import Derived.Test.YtgfijbbibafdfaaGreatPImages
import Derived.Test.YtgfijbbibafdfaaGreatPJournal
namespace Go.Proofs.YtgfijbbibafdfaaGreat
open Go.RowKit
set_option linter.unusedVariables false

set_option maxRecDepth 100000 in
set_option maxHeartbeats 400000 in
theorem commit1_any (b2 b3 g n : Nat) (p : Dp) (D : Dv) (v : Value) (l : List Chg) (w : World) (h2 : w.cell? ⟨b2, 0, none⟩ = some (.pointer (some ⟨g, 0, none⟩))) (h3 : w.cell? ⟨b3, 0, none⟩ = some v)
    (hc0 : w.cell? ⟨g, 0, none⟩ = some (.pointer (some ⟨p.d, 0, none⟩))) (hgp : ¬ p.mem g) (hD : Dev w p D) (h0 : 0 ≤ D.c) (h1 : D.c ≤ 998000) (hn : 126 + 4 * n ≤ D.n) (hn2 : n ≤ 160)
    (hS : Chs (fun k => ¬ p.mem k) w v l) (hok : okC n l) :
    Calls Tryz.prog 30 #[.pointer (some ⟨b2, 0, none⟩), .pointer (some ⟨b3, 0, none⟩)] w fun e w' => e = .returned (.int .i64 (D.goE (jrW l))) ∧ Dev w' p (D.go (jrW l)) ∧ Kp p.mem w w' := by
  have hc := writeJournal_any g n p D v l w hc0 hgp hD h0 h1 hn hn2 hS hok
  obtain ⟨a, c, rfl⟩ := hS.shape
  go_enter Tryz.func30, Tryz.ntmps30
  go_wp2_with (go_at_call 31; refine hc.mono ?_; rintro e w2 ⟨rfl, hD3, hk3⟩)
  go_ret
  exact ⟨rfl, hD3, hk3⟩
set_option maxRecDepth 100000 in
set_option maxHeartbeats 400000 in
theorem commit3_any (b2 b3 g n : Nat) (p : Dp) (D : Dv) (v : Value) (l : List Chg) (w : World) (h2 : w.cell? ⟨b2, 0, none⟩ = some (.pointer (some ⟨g, 0, none⟩))) (h3 : w.cell? ⟨b3, 0, none⟩ = some v)
    (hc0 : w.cell? ⟨g, 0, none⟩ = some (.pointer (some ⟨p.d, 0, none⟩))) (hgp : ¬ p.mem g) (hD : Dev w p D) (h0 : 0 ≤ D.c) (h1 : D.c ≤ 980000) (hn : 126 + 4 * n ≤ D.n) (hn2 : n ≤ 160)
    (hS : Chs (fun k => ¬ p.mem k) w v l) (hok : okC n l) :
    Calls Tryz.prog 36 #[.pointer (some ⟨b2, 0, none⟩), .pointer (some ⟨b3, 0, none⟩)] w fun e w' => e = .returned (.int .i64 (D.goE (stW l))) ∧ Dev w' p (D.go (stW l)) ∧ Kp p.mem w w' := by
  have hc := psettle_any g n p D v l w hc0 hgp hD h0 h1 hn hn2 hS hok
  obtain ⟨a, c, rfl⟩ := hS.shape
  go_enter Tryz.func36, Tryz.ntmps36
  go_wp2_with (go_at_call 37; refine hc.mono ?_; rintro e w2 ⟨rfl, hD3, hk3⟩)
  go_ret
  exact ⟨rfl, hD3, hk3⟩
theorem commit1_doer (b2 b3 g n N : Nat) (hN : 126 + 4 * n ≤ N) (p : Dp) (v : Value) (l : List Chg) (w : World) (h2 : w.cell? ⟨b2, 0, none⟩ = some (.pointer (some ⟨g, 0, none⟩))) (h3 : w.cell? ⟨b3, 0, none⟩ = some v)
    (hc0 : w.cell? ⟨g, 0, none⟩ = some (.pointer (some ⟨p.d, 0, none⟩))) (hgp : ¬ p.mem g) (hb2 : ¬ p.mem b2) (hb3 : ¬ p.mem b3) (hn2 : n ≤ 160)
    (hS : Chs (fun k => ¬ p.mem k) w v l) (hok : okC n l) : Doer (fun _ => True) 980000 N p w (.func (.func 30) #[] #[.pointer (some ⟨b2, 0, none⟩), .pointer (some ⟨b3, 0, none⟩)]) (jrW l) := by
  refine ⟨_, _, _, rfl, enters_of Tryz.func30 (by kernel_rfl) rfl, fun W D hk hD hN' _ h0 h1 => ?_⟩
  rw [show (#[] ++ #[Value.pointer (some ⟨b2, 0, none⟩), Value.pointer (some ⟨b3, 0, none⟩)] : Array Value) = #[Value.pointer (some ⟨b2, 0, none⟩), Value.pointer (some ⟨b3, 0, none⟩)] by simp]
  exact commit1_any b2 b3 g n p D v l W (hk.cell h2 hb2) (hk.cell h3 hb3) (hk.cell hc0 hgp) hgp hD h0 (by omega) (by omega) hn2 (hS.kept hk (fun _ h => h)) hok
theorem commit3_doer (b2 b3 g n N : Nat) (hN : 126 + 4 * n ≤ N) (p : Dp) (v : Value) (l : List Chg) (w : World) (h2 : w.cell? ⟨b2, 0, none⟩ = some (.pointer (some ⟨g, 0, none⟩))) (h3 : w.cell? ⟨b3, 0, none⟩ = some v)
    (hc0 : w.cell? ⟨g, 0, none⟩ = some (.pointer (some ⟨p.d, 0, none⟩))) (hgp : ¬ p.mem g) (hb2 : ¬ p.mem b2) (hb3 : ¬ p.mem b3) (hn2 : n ≤ 160)
    (hS : Chs (fun k => ¬ p.mem k) w v l) (hok : okC n l) : Doer (fun _ => True) 980000 N p w (.func (.func 36) #[] #[.pointer (some ⟨b2, 0, none⟩), .pointer (some ⟨b3, 0, none⟩)]) (stW l) := by
  refine ⟨_, _, _, rfl, enters_of Tryz.func36 (by kernel_rfl) rfl, fun W D hk hD hN' _ h0 h1 => ?_⟩
  rw [show (#[] ++ #[Value.pointer (some ⟨b2, 0, none⟩), Value.pointer (some ⟨b3, 0, none⟩)] : Array Value) = #[Value.pointer (some ⟨b2, 0, none⟩), Value.pointer (some ⟨b3, 0, none⟩)] by simp]
  exact commit3_any b2 b3 g n p D v l W (hk.cell h2 hb2) (hk.cell h3 hb3) (hk.cell hc0 hgp) hgp hD h0 (by omega) (by omega) hn2 (hS.kept hk (fun _ h => h)) hok
theorem mark_doer0 (g N : Nat) (p : Dp) (D : Dv) (w : World) (hc0 : w.cell? ⟨g, 0, none⟩ = some (.pointer (some ⟨p.d, 0, none⟩))) (hgp : ¬ p.mem g) (hu : ∀ k, D.u k = none) :
    Doer (fun D' => D' = D) 980000 N p w (.func (.func 29) #[.pointer (some ⟨g, 0, none⟩)] #[]) [] := by
  refine ⟨_, _, _, rfl, enters_of Tryz.func29 (by kernel_rfl) rfl, fun W D' hk hD hN' he h0 h1 => ?_⟩
  rw [show (#[Value.pointer (some ⟨g, 0, none⟩)] ++ #[] : Array Value) = #[Value.pointer (some ⟨g, 0, none⟩)] by simp]
  subst he
  exact (settleMark_any g p D' W (hk.cell hc0 hgp) hD hu).mono (fun e w' h => ⟨h.1, hD.keptN h.2, h.2.mono (fun _ _ h => h.elim)⟩)

set_option maxHeartbeats 400000 in
theorem commit_nil (v : Value) (l : List Chg) (S : Nat → Prop) (w : World) (hS : Chs S w v l) : Calls Tryz.prog 15 #[.pointer none, v] w fun e w' => e = .returned (.int .i64 1) ∧ Kp none' w w' := by
  obtain ⟨a, c, rfl⟩ := hS.shape
  go_enter Tryz.func15, Tryz.ntmps15
  go_wp2
  go_ret
  exact ⟨rfl, (Kp.alloc none' w _).then (Kp.alloc none' _ _)⟩
/-- The two variables that Commit and settle make of their parameters. -/
theorem two_vars (w : World) (x y : Value) (t u : TypeId) : Kp none' w ((w.alloc (.cells #[x] t)).alloc (.cells #[y] u)) ∧ ((w.alloc (.cells #[x] t)).alloc (.cells #[y] u)).cell? ⟨w.heap.size, 0, none⟩ = some x ∧
    ((w.alloc (.cells #[x] t)).alloc (.cells #[y] u)).cell? ⟨w.heap.size + 1, 0, none⟩ = some y := by
  refine ⟨(Kp.alloc none' w _).then (Kp.alloc none' _ _), (Kp.alloc none' _ _).cell (by rw [cell_of_row _ _ _ _ _ _ (heap_alloc_new w _)]; rfl) (fun h => h), ?_⟩
  have := heap_alloc_new (w.alloc (.cells #[x] t)) (.cells #[y] u)
  rw [show (w.alloc (.cells #[x] t)).heap.size = w.heap.size + 1 by simp] at this
  rw [cell_of_row _ _ _ _ _ _ this]
  rfl
set_option maxRecDepth 100000 in
set_option maxHeartbeats 800000 in
/-- Nothing is done. -/
theorem commit_no (g n : Nat) (p : Dp) (c : Int) (bv : Value) (bl : List Chg) (v : Value) (l : List Chg) (S : Nat → Prop) (w : World) (hP : Pag w g p n c bv bl) (hbl : bl.length ≤ 31) (hS : Chs S w v l) (hr : i64s (l.map Chg.page)) (h : refE n bl l ≠ 0 ∨ l = []) :
    Calls Tryz.prog 15 #[.pointer (some ⟨g, 0, none⟩), v] w fun e w' => e = .returned (.int .i64 (refE n bl l)) ∧ Kp none' w w' := by
  obtain ⟨ka, c2, c3⟩ := two_vars w (.pointer (some ⟨g, 0, none⟩)) v 29 35
  obtain ⟨wa, Ha⟩ : ∃ wa, Hid ((w.alloc (.cells #[.pointer (some ⟨g, 0, none⟩)] 29)).alloc (.cells #[v] 35) = wa) := ⟨_, rfl⟩
  rw [Ha.out] at ka c2 c3
  have hrf := refusal_any g n p c bv bl v l S wa (hP.keptN ka) hbl (hS.keptN ka) hr
  obtain ⟨E, HE⟩ : ∃ E, Hid (refE n bl l = E) := ⟨_, rfl⟩
  rw [HE.out] at hrf h ⊢
  obtain ⟨a, cc, rfl⟩ := hS.shape
  by_cases hE : E = 0
  · have hE' : (E != 0) = false := by simp [hE]
    have hl : l = [] := h.resolve_left (fun h => h hE)
    have hl0 : ((l.length : Int) == 0) = true := by simp [hl]
    clear h hl
    go_enter Tryz.func15, Tryz.ntmps15
    go_upto_region 1 with fail
    rw [Ha.out]
    generalize w.heap.size = b2 at *
    go_upto_region 4 with (first
      | (go_at_call 26; refine hrf.mono ?_; rintro e w1 ⟨rfl, hk1⟩)
      | fail)
    have d2 := hk1.cell c2 (fun h => h)
    have d3 := hk1.cell c3 (fun h => h)
    go_wp2
    go_ret
    exact ⟨by first | rfl | (rw [hE]; rfl), ka.then hk1⟩
  · have hE' : (E != 0) = true := by simp [hE]
    go_enter Tryz.func15, Tryz.ntmps15
    go_upto_region 1 with fail
    rw [Ha.out]
    generalize w.heap.size = b2 at *
    go_upto_region 4 with (first
      | (go_at_call 26; refine hrf.mono ?_; rintro e w1 ⟨rfl, hk1⟩)
      | fail)
    go_wp2
    go_ret
    exact ⟨rfl, ka.then hk1⟩
theorem okC_ref {n : Nat} {l : List Chg} (hn : n ≤ 160) (h : okC n l) : refE n [] l = 0 := by
  have h1 : ¬ 31 < l.length := by have := h.m; omega
  have h2 : allB n (l.map Chg.page) = true := by
    unfold allB
    rw [List.all_eq_true]
    intro z hz
    obtain ⟨c, hc, rfl⟩ := List.mem_map.1 hz
    have := h.p c hc
    simp [hasB]
    omega
  unfold refE
  rw [if_neg (by simp), if_neg h1, if_pos h2, if_pos h.d, okC_wE hn h]
theorem oldD_pages (D : Dv) (l : List Chg) : (oldD D l).map Chg.page = l.map Chg.page := by
  unfold oldD
  rw [List.map_map]
  rfl
theorem oldD_ok {w : World} {p : Dp} {D : Dv} {n : Nat} {l : List Chg} (hD : Dev w p D) (hn : 126 + 4 * n ≤ D.n) (h : okC n l) : okC n (oldD D l) := by
  refine ⟨fun c hc => ?_, fun c hc => ?_, by rw [oldD_pages]; exact h.u, by rw [oldD_len]; exact h.m⟩
  · obtain ⟨d, hd, rfl⟩ := List.mem_map.1 hc
    exact h.p d hd
  · obtain ⟨d, hd, rfl⟩ := List.mem_map.1 hc
    have := h.p d hd
    exact catB_four D _ (fun j hj => hD.atl _ (by unfold placeN; omega))
/-- A pager's cell is written. -/
theorem Pag.setC {w : World} {g : Nat} {p : Dp} {n : Nat} {c : Int} {bv : Value} {bl : List Chg} (h : Pag w g p n c bv bl) (x : Int) : Pag (w.setCell ⟨g, 2, none⟩ (.int .i64 x)) g p n x bv bl := by
  have hk : Kp (only g) w (w.setCell ⟨g, 2, none⟩ (.int .i64 x)) := Kp.setCell _ _ _ _ rfl
  have ne : ∀ j, j ≠ 2 → (⟨g, 2, none⟩ : Addr) ≠ ⟨g, j, none⟩ := fun j hj he => hj (congrArg Addr.off he).symm
  exact ⟨by rw [World.cell?_setCell_other (h := ne 0 (by omega))]; exact h.c0, by rw [World.cell?_setCell_other (h := ne 1 (by omega))]; exact h.c1, World.cell?_setCell_same _ _ _ h.c2,
    by rw [World.cell?_setCell_other (h := ne 3 (by omega))]; exact h.c3, fun j => by rw [World.frozen?_setCell]; exact h.fr j, h.bs.kept hk (fun k h => h.2), h.gp⟩
theorem Pag.setB {w : World} {g : Nat} {p : Dp} {n : Nat} {c : Int} {bv : Value} {bl : List Chg} (h : Pag w g p n c bv bl) {v : Value} {l : List Chg} (hv : Chs (fun k => ¬ p.mem k ∧ k ≠ g) w v l) : Pag (w.setCell ⟨g, 3, none⟩ v) g p n c v l := by
  have hk : Kp (only g) w (w.setCell ⟨g, 3, none⟩ v) := Kp.setCell _ _ _ _ rfl
  have ne : ∀ j, j ≠ 3 → (⟨g, 3, none⟩ : Addr) ≠ ⟨g, j, none⟩ := fun j hj he => hj (congrArg Addr.off he).symm
  exact ⟨by rw [World.cell?_setCell_other (h := ne 0 (by omega))]; exact h.c0, by rw [World.cell?_setCell_other (h := ne 1 (by omega))]; exact h.c1, by rw [World.cell?_setCell_other (h := ne 2 (by omega))]; exact h.c2,
    World.cell?_setCell_same _ _ _ h.c3, fun j => by rw [World.frozen?_setCell]; exact h.fr j, hv.kept hk (fun k h => h.2), h.gp⟩
set_option maxRecDepth 100000 in
set_option maxHeartbeats 1600000 in
theorem commit_ok (g n : Nat) (p : Dp) (D : Dv) (c : Int) (bv : Value) (v : Value) (l : List Chg) (w : World) (hP : Pag w g p n c bv []) (hD : Dev w p D) (h0 : 0 ≤ D.c) (h1 : D.c ≤ 900000) (hn : 126 + 4 * n ≤ D.n) (hn2 : n ≤ 160) (hu : ∀ k, D.u k = none)
    (hS : Chs (fun k => ¬ p.mem k) w v l) (hok : okC n l) (hne : l ≠ []) (hc0 : 0 ≤ c) (hc1 : c ≤ 1000000) :
    Calls Tryz.prog 15 #[.pointer (some ⟨g, 0, none⟩), v] w fun e w' => e = .returned (.int .i64 (D.goE (cmW (oldD D l) l))) ∧ Dev w' p (D.go (cmW (oldD D l) l)) ∧ Kp (fun k => p.mem k ∨ k = g) w w' ∧
      (D.goE (cmW (oldD D l) l) = 0 → Pag w' g p n (c + 1) bv []) ∧ (D.goE (cmW (oldD D l) l) ≠ 0 → ∃ u, Pag w' g p n c u (oldD D l)) := by
  have hgp := hP.gp
  have hlt0 := hD.lt
  have hgl := hP.lt
  have hm := hok.m
  obtain ⟨ka, c2, c3⟩ := two_vars w (.pointer (some ⟨g, 0, none⟩)) v 29 35
  obtain ⟨wa, Ha⟩ : ∃ wa, Hid ((w.alloc (.cells #[.pointer (some ⟨g, 0, none⟩)] 29)).alloc (.cells #[v] 35) = wa) := ⟨_, rfl⟩
  rw [Ha.out] at ka c2 c3
  have hr : i64s (l.map Chg.page) := fun z hz => by
    obtain ⟨x, hx, rfl⟩ := List.mem_map.1 hz
    have := hok.p x hx
    omega
  have hrf := refusal_any g n p c bv [] v l _ wa (hP.keptN ka) (by simp) (hS.keptN ka) hr
  rw [okC_ref hn2 hok] at hrf
  have hl0 : ((l.length : Int) == 0) = false := by
    have : l.length ≠ 0 := fun e => hne (List.eq_nil_of_length_eq_zero e)
    simp
    exact hne
  obtain ⟨a, cc, hv⟩ := hS.shape
  subst hv
  have hwa := ka.size
  have hb2 : ¬ p.mem w.heap.size := fun h => by have := hlt0 _ h; omega
  have hb3 : ¬ p.mem (w.heap.size + 1) := fun h => by have := hlt0 _ h; omega
  have HNE := hide hne
  clear hne
  have hb2g : w.heap.size ≠ g := by omega
  have hb2w : w.heap.size < wa.heap.size := lt_of_cell c2
  go_enter Tryz.func15, Tryz.ntmps15
  go_upto_region 1 with fail
  rw [Ha.out]
  obtain ⟨b2, HB2⟩ : ∃ b2, Hid (w.heap.size = b2) := ⟨_, rfl⟩
  rw [HB2.out] at c2 c3 hb2 hb3 hb2g hb2w hlt0 hgl ⊢
  go_upto_region 4 with (first
    | (go_at_call 26; refine hrf.mono ?_; rintro e w1 ⟨rfl, hk1⟩)
    | fail)
  clear hrf
  have d2 := hk1.cell c2 (fun h => h)
  have d3 := hk1.cell c3 (fun h => h)
  have hk01 := ka.then hk1
  have him := images_any g n p D _ l w1 (hk01.cell hP.c0 (fun h => h)) (hD.keptN hk01) hn hn2 (hS.keptN hk01) hok.p hm
  go_upto_region 6 with fail
  go_upto_region 7 with (first
    | (go_at_call 27; refine him.mono ?_; rintro e w2 ⟨u, rfl, hO, hk2⟩; obtain ⟨au, cu, rfl⟩ := hO.chs.shape; rw [oldD_len])
    | fail)
  clear him
  have hkB := Kp.alloc none' w2 (.cells #[.slice au l.length cu] 35)
  have cB : (w2.alloc (.cells #[.slice au l.length cu] 35)).cell? ⟨w2.heap.size, 0, none⟩ = some (.slice au l.length cu) := by rw [cell_of_row _ _ _ _ _ _ (heap_alloc_new w2 _)]; rfl
  rw [oldD_len] at hO
  obtain ⟨w3, H3⟩ : ∃ w3, Hid (w2.alloc (.cells #[.slice au l.length cu] 35) = w3) := ⟨_, rfl⟩
  rw [H3.out] at hkB cB ⊢
  have hk13 : Kp none' w1 w3 := hk2.then hkB
  have hk03 : Kp none' w w3 := hk01.then hk13
  have hO3 := hO.keptN hkB
  have hw12 := hk2.size
  have hw01 := hk01.size
  have hCo : Chs (fun k => ¬ p.mem k ∧ k ≠ g) w3 (.slice au l.length cu) (oldD D l) := hO3.chs.mono (fun j _ hj => ⟨fun hm => by have := hlt0 j hm; have := HB2.out; omega, by have := HB2.out; omega⟩)
  have hb6 : ¬ p.mem w2.heap.size := fun h => by have := hlt0 _ h; have := HB2.out; omega
  have hP3 := hP.keptN hk03
  have hD3 := hD.keptN hk03
  have c2' := hk13.cell d2 (fun h => h)
  have c3' := hk13.cell d3 (fun h => h)
  have c0' := hP3.c0
  have hS3 := hS.keptN hk03
  clear c2 c3 d2 d3 hk1 hk2 hkB hO hO3 hk01 hk13 hP hD hS ka hwa hw12 hw01
  generalize w2.heap.size = b6 at *
  have c2 := c2'
  have t2 : w3.drew.cell? ⟨b2, 0, none⟩ = some (.pointer (some ⟨g, 0, none⟩)) := c2'
  have t0 : w3.drew.cell? ⟨g, 0, none⟩ = some (.pointer (some ⟨p.d, 0, none⟩)) := c0'
  have hoo := oldD_ok hD3 hn hok
  have hlen := cmW_len (oldD D l) l
  rw [oldD_len] at hlen
  have HT : Hid (Calls Tryz.prog 28 #[.slice (some ⟨w3.heap.size, 0, none⟩) 6 6] (w3.alloc (.cells #[.func (.func 29) #[.pointer (some ⟨g, 0, none⟩)] #[], .func (.func 30) #[] #[.pointer (some ⟨b2, 0, none⟩), .pointer (some ⟨b6, 0, none⟩)],
      .func (.func 32) #[.pointer (some ⟨p.d, 0, none⟩)] #[], .func (.func 33) #[] #[.pointer (some ⟨b2, 0, none⟩)], .func (.func 32) #[.pointer (some ⟨p.d, 0, none⟩)] #[],
      .func (.func 36) #[] #[.pointer (some ⟨b2, 0, none⟩), .pointer (some ⟨b2 + 1, 0, none⟩)]] 67)).drew
      fun e w' => e = .returned (.int .i64 (D.goE (cmW (oldD D l) l))) ∧ Dev w' p (D.go (cmW (oldD D l) l)) ∧ Kp p.mem w3 w') := by
    exact turn_new 980000 D.n p D _ [_, _, _, _, _] [] [jrW (oldD D l), [.sy], [.wr 0 (markL true)], [.sy], stW l] (cmW (oldD D l) l) w3 _ hD3 rfl h0 (by simp [cmW]) (by omega) (by simp)
      (mark_doer0 g D.n p D w3 c0' hgp hu)
      (.cons (commit1_doer b2 b6 g n D.n hn p _ (oldD D l) w3 c2' cB c0' hgp hb2 hb6 hn2 (hCo.mono (fun _ _ h => h.1)) hoo) (.cons (sync_doer 980000 _ (by omega) p w3)
        (.cons (mark_doer (enters_of Tryz.func33 (by kernel_rfl) rfl) commit2_any 980000 (by omega) b2 g D.n (by omega) p w3 c2' c0' hgp hb2) (.cons (sync_doer 980000 _ (by omega) p w3)
          (.cons (commit3_doer b2 (b2 + 1) g n D.n hn p _ l w3 c2' c3' c0' hgp hb2 hb3 hn2 hS3 hok) .nil)))))
  obtain ⟨E, HE⟩ : ∃ E, Hid (D.goE (cmW (oldD D l) l) = E) := ⟨_, rfl⟩
  obtain ⟨F, HF⟩ : ∃ F, Hid (D.go (cmW (oldD D l) l) = F) := ⟨_, rfl⟩
  rw [HE.out, HF.out] at HT
  refine wp_region_held_drew (S := fun W => W.cell? ⟨b2, 0, none⟩ = some (.pointer (some ⟨g, 0, none⟩)) ∧ W.cell? ⟨g, 0, none⟩ = some (.pointer (some ⟨p.d, 0, none⟩))) (by kernel_rfl) ⟨t2, t0⟩ (fun hHeld => ?_)
  refine take_at (i := 0) (d := 24) (v := ?_) rfl rfl (by kernel_rfl) (by kernel_rfl) (by kernel_rfl) (fun _ _ _ h => h) (Or.inl ⟨by rfl, ?_⟩) (by assumption) ?_
  rotate_left
  · intro W hSW
    try dsimp only at hSW
    go_simp
    try with_reducible rfl
  simp only [Act.put, List.setIfInBounds_toArray, List.set_cons_zero, List.set_cons_succ]
  refine take_at (i := 1) (d := 25) (v := ?_) rfl rfl (by kernel_rfl) (by kernel_rfl) (by kernel_rfl) (fun _ _ _ h => h) (Or.inl ⟨by rfl, ?_⟩) (by assumption) ?_
  rotate_left
  · intro W hSW
    try dsimp only at hSW
    go_simp
    try with_reducible rfl
  simp only [Act.put, List.setIfInBounds_toArray, List.set_cons_zero, List.set_cons_succ]
  refine take_at (i := 2) (d := 26) (v := ?_) rfl rfl (by kernel_rfl) (by kernel_rfl) (by kernel_rfl) (fun _ _ _ h => h) (Or.inl ⟨by rfl, ?_⟩) (by assumption) ?_
  rotate_left
  · intro W hSW
    try dsimp only at hSW
    go_simp
    try with_reducible rfl
  simp only [Act.put, List.setIfInBounds_toArray, List.set_cons_zero, List.set_cons_succ]
  refine take_at (i := 3) (d := 27) (v := ?_) rfl rfl (by kernel_rfl) (by kernel_rfl) (by kernel_rfl) (fun _ _ _ h => h) (Or.inl ⟨by rfl, ?_⟩) (by assumption) ?_
  rotate_left
  · intro W hSW
    try dsimp only at hSW
    go_simp
    try with_reducible rfl
  simp only [Act.put, List.setIfInBounds_toArray, List.set_cons_zero, List.set_cons_succ]
  refine take_at (i := 4) (d := 28) (v := ?_) rfl rfl (by kernel_rfl) (by kernel_rfl) (by kernel_rfl) (fun _ _ _ h => h) (Or.inl ⟨by rfl, ?_⟩) (by assumption) ?_
  rotate_left
  · intro W hSW
    try dsimp only at hSW
    go_simp
    try with_reducible rfl
  simp only [Act.put, List.setIfInBounds_toArray, List.set_cons_zero, List.set_cons_succ]
  refine take_at (i := 5) (d := 29) (v := ?_) rfl rfl (by kernel_rfl) (by kernel_rfl) (by kernel_rfl) (fun _ _ _ h => h) (Or.inl ⟨by rfl, ?_⟩) (by assumption) ?_
  rotate_left
  · intro W hSW
    try dsimp only at hSW
    go_simp
    try with_reducible rfl
  simp only [Act.put, List.setIfInBounds_toArray, List.set_cons_zero, List.set_cons_succ]
  refine take_at (i := 6) (d := 30) (v := ?_) rfl rfl (by kernel_rfl) (by kernel_rfl) (by kernel_rfl) (fun _ _ _ h => h) (Or.inl ⟨by rfl, ?_⟩) (by assumption) ?_
  rotate_left
  · intro W hSW
    try dsimp only at hSW
    go_simp
    try with_reducible rfl
  simp only [Act.put, List.setIfInBounds_toArray, List.set_cons_zero, List.set_cons_succ]
  refine take_at (i := 7) (d := 31) (v := ?_) rfl rfl (by kernel_rfl) (by kernel_rfl) (by kernel_rfl) (fun _ _ _ h => h) (Or.inl ⟨by rfl, ?_⟩) (by assumption) ?_
  rotate_left
  · intro W hSW
    try dsimp only at hSW
    go_simp
    try with_reducible rfl
  simp only [Act.put, List.setIfInBounds_toArray, List.set_cons_zero, List.set_cons_succ]
  refine take_at (i := 8) (d := 32) (v := ?_) rfl rfl (by kernel_rfl) (by kernel_rfl) (by kernel_rfl) (fun _ _ _ h => h) (Or.inl ⟨by rfl, ?_⟩) (by assumption) ?_
  rotate_left
  · intro W hSW
    try dsimp only at hSW
    go_simp
    try with_reducible rfl
  simp only [Act.put, List.setIfInBounds_toArray, List.set_cons_zero, List.set_cons_succ]
  refine take_at (i := 9) (d := 33) (v := ?_) rfl rfl (by kernel_rfl) (by kernel_rfl) (by kernel_rfl) (fun _ _ _ h => h) (Or.inl ⟨by rfl, ?_⟩) (by assumption) ?_
  rotate_left
  · intro W hSW
    try dsimp only at hSW
    go_simp
    try with_reducible rfl
  simp only [Act.put, List.setIfInBounds_toArray, List.set_cons_zero, List.set_cons_succ]
  refine take_at (i := 10) (d := 34) (v := ?_) rfl rfl (by kernel_rfl) (by kernel_rfl) (by kernel_rfl) (fun _ _ _ h => h) (Or.inl ⟨by rfl, ?_⟩) (by assumption) ?_
  rotate_left
  · intro W hSW
    try dsimp only at hSW
    go_simp
    try with_reducible rfl
  simp only [Act.put, List.setIfInBounds_toArray, List.set_cons_zero, List.set_cons_succ]
  refine take_at (i := 11) (d := 35) (v := ?_) rfl rfl (by kernel_rfl) (by kernel_rfl) (by kernel_rfl) (fun _ _ _ h => h) (Or.inl ⟨by rfl, ?_⟩) (by assumption) ?_
  rotate_left
  · intro W hSW
    try dsimp only at hSW
    go_simp
    try with_reducible rfl
  simp only [Act.put, List.setIfInBounds_toArray, List.set_cons_zero, List.set_cons_succ]
  refine take_at (i := 12) (d := 36) (v := ?_) rfl rfl (by kernel_rfl) (by kernel_rfl) (by kernel_rfl) (fun _ _ _ h => h) (Or.inl ⟨by rfl, ?_⟩) (by assumption) ?_
  rotate_left
  · intro W hSW
    try dsimp only at hSW
    go_simp
    try with_reducible rfl
  simp only [Act.put, List.setIfInBounds_toArray, List.set_cons_zero, List.set_cons_succ]
  refine take_at (i := 13) (d := 37) (v := ?_) rfl rfl (by kernel_rfl) (by kernel_rfl) (by kernel_rfl) (fun _ _ _ h => h) (Or.inl ⟨by rfl, ?_⟩) (by assumption) ?_
  rotate_left
  · intro W hSW
    try dsimp only at hSW
    go_simp
    try with_reducible rfl
  simp only [Act.put, List.setIfInBounds_toArray, List.set_cons_zero, List.set_cons_succ]
  refine take_at (i := 14) (d := 38) (v := ?_) rfl rfl (by kernel_rfl) (by kernel_rfl) (by kernel_rfl) (fun _ _ _ h => h) (Or.inl ⟨by rfl, ?_⟩) (by assumption) ?_
  rotate_left
  · intro W hSW
    try dsimp only at hSW
    go_simp
    try with_reducible rfl
  simp only [Act.put, List.setIfInBounds_toArray, List.set_cons_zero, List.set_cons_succ]
  refine wpAnyH_ready (rs := [15]) (by kernel_rfl) (by simp) ?_
  refine AllReadyH.cons rfl (fun K hK => ?_) AllReadyH.nil
  go_simp
  refine hK.out _ _ ⟨(Kp.alloc none' w3 _).cell c2 (fun h => h), (Kp.alloc none' w3 _).cell t0 (fun h => h)⟩ (fun hHeld => ?_)
  clear hK K
  refine wpAnyH_ready (rs := [16]) (by kernel_rfl) (by simp) ?_
  refine AllReadyH.cons rfl (fun K hK => ?_) AllReadyH.nil
  go_simp
  go_wp2_with (go_at_call 28; refine HT.out.mono ?_; rintro e w4 ⟨rfl, hD4, hk4⟩)
  refine hK.out _ _ (⟨hk4.cell c2 hb2, hk4.cell t0 hgp⟩) (fun hHeld => ?_)
  clear hK K
  refine take_at (i := 17) (d := 7) (v := ?_) rfl rfl (by kernel_rfl) (by kernel_rfl) (by kernel_rfl) (fun _ _ _ h => h) (Or.inl ⟨by rfl, ?_⟩) (by assumption) ?_
  rotate_left
  · intro W hSW
    try dsimp only at hSW
    go_simp
    try with_reducible rfl
  simp only [Act.put, List.setIfInBounds_toArray, List.set_cons_zero, List.set_cons_succ]
  refine wpAnyH_done (by kernel_rfl) ?_ _
  have hP4 := hP3.kept hk4
  have e2 := hk4.cell c2 hb2
  have e6 := hk4.cell cB hb6
  have f2 := hP4.c2
  have f3 := hP4.c3
  have z2 := hP4.fr 2
  have z3 := hP4.fr 3
  have HK4 := hide (hk03.nThen (S := fun k => p.mem k ∨ k = g) (hk4.mono (fun _ _ h => .inl h)))
  have HCo := hide (hCo.kept hk4 (fun _ h => h.1))
  have HP4 := hide hP4
  clear HT t2 t0 c2' c3' c0' hS3 hCo hP3 hP4 hD3 hk03 hk4
  by_cases hE : E = 0
  · have hE' : (E != 0) = false := by simp [hE]
    have HW : Hid (wrap64 (c + 1) = c + 1) := by show _ = _; unfold wrap64; omega
    go_wp2
    go_ret
    refine ⟨by rw [HE.out, hE]; rfl, by rw [HF.out]; exact hD4.kept (Kp.setCell (S := only g) _ _ _ _ rfl) (fun k hk he => hgp (by unfold only at he; rw [← he]; exact hk)), HK4.out.then (Kp.setCell _ _ _ _ (.inr rfl)), fun _ => ?_, fun h => absurd (by rw [HE.out]; exact hE) h⟩
    have := HP4.out.setC (c + 1)
    first | exact this | (rw [← HW.out] at this ⊢; exact this)
  · have hE' : (E != 0) = true := by simp [hE]
    go_wp2
    go_ret
    exact ⟨by rw [HE.out]; rfl, by rw [HF.out]; exact hD4.kept (Kp.setCell (S := only g) _ _ _ _ rfl) (fun k hk he => hgp (by unfold only at he; rw [← he]; exact hk)), HK4.out.then (Kp.setCell _ _ _ _ (.inr rfl)), fun h => absurd (by rw [← HE.out]; exact h) hE, fun _ => ⟨_, HP4.out.setB HCo.out⟩⟩

end Go.Proofs.YtgfijbbibafdfaaGreat
