/- Contract, over the turned program: a pager's settle. Conditions: those that the theorem states. -/
import Derived.Test.YtgfijbbibafdfaaGreatPSettle
namespace Go.Proofs.YtgfijbbibafdfaaGreat
open Go.RowKit
set_option linter.unusedVariables false

/-- An operation of a region that yields in every world that meets S is taken first; its slot written out. -/
theorem take_at {P : Program} {md : Region.Mode} {ops : Array Oper} {Q : Exit → Act → World → Prop} {S : World → Prop} {i d : Nat} {oi : Oper} {v : Value} {fuel : Nat} {listed : Array Bool} {a : Act} {w : World} (hi : ops[i]? = some oi) (hd : oi.dst = some d)
    (hs : Region.noSelect ops = true) (hf : Region.free md ops listed i = true) (hr : (Region.ready md ops listed).contains i = true)
    (hQ : ∀ c a w, Q (.panic c) (a.put oi.dst v) w → Q (.panic c) a w) (hy : YieldsIf P ops S oi v a) (hS : S w)
    (h : wpAnyH P md ops Q S fuel (listed.setIfInBounds i true) (a.put (some d) v) w) : wpAnyH P md ops Q S (fuel + 1) listed a w :=
  wpAnyH_take hi hs hf hr hQ hy hS (by rw [hd]; exact h)
/-- The cells of a new row. -/
theorem row_cells (w : World) (fs : List Value) (t : TypeId) (k : Nat) (h : k < fs.length) : (w.alloc (.cells fs.toArray t)).drew.cell? ⟨w.heap.size, k, none⟩ = some fs[k] := by
  have hb : (w.alloc (.cells fs.toArray t)).heap[w.heap.size]? = some (.cells fs.toArray t (0, 0)) := heap_alloc_new w _
  show (w.alloc (.cells fs.toArray t)).cell? ⟨w.heap.size, k, none⟩ = _
  rw [cell_of_row _ _ _ _ _ _ hb]
  simp [h]
theorem sync_doer (M : Int) (N : Nat) (hM : M ≤ 990000) (p : Dp) (w : World) : Doer (fun _ => True) M N p w (.func (.func 32) #[.pointer (some ⟨p.d, 0, none⟩)] #[]) [.sy] :=
  ⟨_, _, _, rfl, enters_of Tryz.func32 (by kernel_rfl) rfl, fun W D hk hD hN _ h0 h1 => by
    rw [show (#[Value.pointer (some ⟨p.d, 0, none⟩)] ++ #[] : Array Value) = #[Value.pointer (some ⟨p.d, 0, none⟩)] by simp]
    have h := sync_any p D W hD h0 (by omega)
    rw [(sync_go D).1, (sync_go D).2] at h
    exact h⟩
theorem Doer.kept {H : Dv → Prop} {M : Int} {N : Nat} {p : Dp} {w W : World} {f : Value} {L : List Stp} (h : Doer H M N p w f L) (hk : Kp p.mem w W) : Doer H M N p W f L := by
  obtain ⟨m, fst, cap, h1, h2, h3⟩ := h.fn
  exact ⟨m, fst, cap, h1, h2, fun W' D hk' hD hN hH h0 h1 => h3 W' D (hk.then hk') hD hN hH h0 h1⟩
theorem Doer.less {H H' : Dv → Prop} {M : Int} {N : Nat} {p : Dp} {w : World} {f : Value} {L : List Stp} (h : Doer H M N p w f L) (hH : ∀ D, H' D → H D) : Doer H' M N p w f L := by
  obtain ⟨m, fst, cap, h1, h2, h3⟩ := h.fn
  exact ⟨m, fst, cap, h1, h2, fun W' D hk' hD hN hH' h0 h1 => h3 W' D hk' hD hN (hH D hH') h0 h1⟩
/-- Each of the functions does its steps. -/
def Doers (M : Int) (N : Nat) (p : Dp) (w : World) : List Value → List (List Stp) → Prop
  | [], [] => True
  | f :: fs, L :: Ls => Doer (fun _ => True) M N p w f L ∧ Doers M N p w fs Ls
  | _, _ => False
theorem Doers.nil {M : Int} {N : Nat} {p : Dp} {w : World} : Doers M N p w [] [] := trivial
theorem Doers.cons {M : Int} {N : Nat} {p : Dp} {w : World} {f : Value} {L : List Stp} {fs : List Value} {Ls : List (List Stp)} (h : Doer (fun _ => True) M N p w f L) (h' : Doers M N p w fs Ls) : Doers M N p w (f :: fs) (L :: Ls) := ⟨h, h'⟩
theorem Doers.at {M : Int} {N : Nat} {p : Dp} {w : World} : ∀ {fs : List Value} {Ls : List (List Stp)} (h : Doers M N p w fs Ls), fs.length = Ls.length ∧ ∀ k (h : k < fs.length) (h' : k < Ls.length), Doer (fun _ => True) M N p w fs[k] Ls[k]
  | [], [], _ => ⟨rfl, fun k h => absurd h (by simp)⟩
  | f :: fs, L :: Ls, h => by
    have ih := Doers.at (fs := fs) (Ls := Ls) h.2
    refine ⟨by simp [ih.1], fun k h1 h2 => ?_⟩
    rcases k with _ | k
    · exact h.1
    · exact ih.2 k (by simpa using h1) (by simpa using h2)
  | [], _ :: _, h => False.elim h
  | _ :: _, [], h => False.elim h
theorem turn_new (M : Int) (N : Nat) (p : Dp) (D : Dv) (f : Value) (fs : List Value) (L0 : List Stp) (Ls : List (List Stp)) (L : List Stp) (w : World) (t : TypeId) (hD : Dev w p D) (hN : D.n = N) (h0 : 0 ≤ D.c) (hL : (L0 :: Ls).flatten = L) (h1 : D.c + L.length ≤ M) (hl6 : fs.length ≤ 5)
    (hf0 : Doer (fun D' => D' = D) M N p w f L0) (hf : Doers M N p w fs Ls) :
    Calls Tryz.prog 28 #[.slice (some ⟨w.heap.size, 0, none⟩) (f :: fs).length (f :: fs).length] (w.alloc (.cells (f :: fs).toArray t)).drew fun e w' => e = .returned (.int .i64 (D.goE L)) ∧ Dev w' p (D.go L) ∧ Kp p.mem w w' := by
  subst hL
  have hk : Kp none' w (w.alloc (.cells (f :: fs).toArray t)).drew := (Kp.alloc none' w _).then (Kp.drew _ _)
  have hrow := row_cells w (f :: fs) t
  have hbs : ¬ p.mem w.heap.size := fun h => by have := hD.lt _ h; omega
  generalize (w.alloc (.cells (f :: fs).toArray t)).drew = wb at *
  have hkm : Kp p.mem w wb := hk.mono (fun _ _ h => h.elim)
  exact (inTurn_any M N p D w.heap.size (f :: fs).length (f :: fs) (L0 :: Ls) wb (hD.keptN hk) hN h0 h1 hbs (by simp [hf.at.1]) (by simpa using hl6) hrow (fun k h h' => by
    rcases k with _ | k
    · exact (hf0.kept hkm).less (fun D' hD' => hD' rfl)
    · exact ((hf.at.2 k (by simpa using h) (by simpa using h')).kept hkm).less (fun _ _ => trivial))).mono (fun e w' h => ⟨h.1, h.2.1, hk.nThen h.2.2⟩)
theorem settle1_doer (b2 b3 g n N : Nat) (hN : 126 + 4 * n ≤ N) (p : Dp) (v : Value) (l : List Chg) (w : World) (h2 : w.cell? ⟨b2, 0, none⟩ = some (.pointer (some ⟨g, 0, none⟩))) (h3 : w.cell? ⟨b3, 0, none⟩ = some v)
    (hc0 : w.cell? ⟨g, 0, none⟩ = some (.pointer (some ⟨p.d, 0, none⟩))) (hgp : ¬ p.mem g) (hb2 : ¬ p.mem b2) (hb3 : ¬ p.mem b3) (hn2 : n ≤ 160)
    (hS : Chs (fun k => ¬ p.mem k) w v l) (hok : okC n l) : Doer (fun _ => True) 990000 N p w (.func (.func 56) #[] #[.pointer (some ⟨b2, 0, none⟩), .pointer (some ⟨b3, 0, none⟩)]) (plW l) := by
  refine ⟨_, _, _, rfl, enters_of Tryz.func56 (by kernel_rfl) rfl, fun W D hk hD hN' _ h0 h1 => ?_⟩
  rw [show (#[] ++ #[Value.pointer (some ⟨b2, 0, none⟩), Value.pointer (some ⟨b3, 0, none⟩)] : Array Value) = #[Value.pointer (some ⟨b2, 0, none⟩), Value.pointer (some ⟨b3, 0, none⟩)] by simp]
  exact settle1_any b2 b3 g n p D v l W (hk.cell h2 hb2) (hk.cell h3 hb3) (hk.cell hc0 hgp) hgp hD h0 (by omega) (by omega) hn2 (hS.kept hk (fun _ h => h)) hok

theorem mark_doer {b : Bool} {m : Nat} (hen : Enters Tryz.prog m) (hc : ∀ (b2 g : Nat) (p : Dp) (D : Dv) (w : World) (h2 : w.cell? ⟨b2, 0, none⟩ = some (.pointer (some ⟨g, 0, none⟩)))
    (hc0 : w.cell? ⟨g, 0, none⟩ = some (.pointer (some ⟨p.d, 0, none⟩))) (hgp : ¬ p.mem g) (hbp : ¬ p.mem b2) (hD : Dev w p D) (h0 : 0 ≤ D.c) (h1 : D.c ≤ 998000) (hn : 0 < D.n),
    Calls Tryz.prog m #[.pointer (some ⟨b2, 0, none⟩)] w fun e w' => e = .returned (.int .i64 (D.goE [.wr 0 (markL b)])) ∧ Dev w' p (D.go [.wr 0 (markL b)]) ∧ Kp p.mem w w')
    (M : Int) (hM : M ≤ 990000) (b2 g N : Nat) (hN : 0 < N) (p : Dp) (w : World) (h2 : w.cell? ⟨b2, 0, none⟩ = some (.pointer (some ⟨g, 0, none⟩))) (hc0 : w.cell? ⟨g, 0, none⟩ = some (.pointer (some ⟨p.d, 0, none⟩))) (hgp : ¬ p.mem g) (hb2 : ¬ p.mem b2) :
    Doer (fun _ => True) M N p w (.func (.func m) #[] #[.pointer (some ⟨b2, 0, none⟩)]) [.wr 0 (markL b)] := by
  refine ⟨_, _, _, rfl, hen, fun W D hk hD hN' _ h0 h1 => ?_⟩
  rw [show (#[] ++ #[Value.pointer (some ⟨b2, 0, none⟩)] : Array Value) = #[Value.pointer (some ⟨b2, 0, none⟩)] by simp]
  exact hc b2 g p D W (hk.cell h2 hb2) (hk.cell hc0 hgp) hgp hb2 hD h0 (by omega) (by omega)
set_option maxRecDepth 100000 in
set_option maxHeartbeats 1600000 in
theorem psettle_any (g n : Nat) (p : Dp) (D : Dv) (v : Value) (l : List Chg) (w : World) (hc0 : w.cell? ⟨g, 0, none⟩ = some (.pointer (some ⟨p.d, 0, none⟩))) (hgp : ¬ p.mem g) (hD : Dev w p D) (h0 : 0 ≤ D.c) (h1 : D.c ≤ 980000) (hn : 126 + 4 * n ≤ D.n) (hn2 : n ≤ 160)
    (hS : Chs (fun k => ¬ p.mem k) w v l) (hok : okC n l) :
    Calls Tryz.prog 37 #[.pointer (some ⟨g, 0, none⟩), v] w fun e w' => e = .returned (.int .i64 (D.goE (stW l))) ∧ Dev w' p (D.go (stW l)) ∧ Kp p.mem w w' := by
  obtain ⟨a, c, hv⟩ := hS.shape
  have hg := lt_of_cell hc0
  have hlt0 := hD.lt
  have ka : Kp none' w ((w.alloc (.cells #[.pointer (some ⟨g, 0, none⟩)] 29)).alloc (.cells #[v] 35)) := (Kp.alloc none' w _).then (Kp.alloc none' _ _)
  have c2 : ((w.alloc (.cells #[.pointer (some ⟨g, 0, none⟩)] 29)).alloc (.cells #[v] 35)).cell? ⟨w.heap.size, 0, none⟩ = some (.pointer (some ⟨g, 0, none⟩)) :=
    (Kp.alloc none' _ _).cell (by rw [cell_of_row _ _ _ _ _ _ (heap_alloc_new w _)]; rfl) (fun h => h)
  have c3 : ((w.alloc (.cells #[.pointer (some ⟨g, 0, none⟩)] 29)).alloc (.cells #[v] 35)).cell? ⟨w.heap.size + 1, 0, none⟩ = some v := by
    have := heap_alloc_new (w.alloc (.cells #[.pointer (some ⟨g, 0, none⟩)] 29)) (.cells #[v] 35)
    rw [show (w.alloc (.cells #[.pointer (some ⟨g, 0, none⟩)] 29)).heap.size = w.heap.size + 1 by simp] at this
    rw [cell_of_row _ _ _ _ _ _ this]
    rfl
  obtain ⟨wa, Ha⟩ : ∃ wa, Hid ((w.alloc (.cells #[.pointer (some ⟨g, 0, none⟩)] 29)).alloc (.cells #[v] 35) = wa) := ⟨_, rfl⟩
  rw [Ha.out] at ka c2 c3
  subst hv
  go_enter Tryz.func37, Tryz.ntmps37
  go_upto_region 1 with fail
  rw [Ha.out]
  have hb2 : ¬ p.mem w.heap.size := fun h => by have := hlt0 _ h; omega
  have hb3 : ¬ p.mem (w.heap.size + 1) := fun h => by have := hlt0 _ h; omega
  generalize w.heap.size = b2 at *
  have t2 : wa.drew.cell? ⟨b2, 0, none⟩ = some (.pointer (some ⟨g, 0, none⟩)) := c2
  have t0 : wa.drew.cell? ⟨g, 0, none⟩ = some (.pointer (some ⟨p.d, 0, none⟩)) := ka.cell hc0 (fun h => h)
  have kA : ∀ (W : World) o, W.cell? ⟨b2, 0, none⟩ = some (.pointer (some ⟨g, 0, none⟩)) ∧ W.cell? ⟨g, 0, none⟩ = some (.pointer (some ⟨p.d, 0, none⟩)) → (W.alloc o).cell? ⟨b2, 0, none⟩ = some (.pointer (some ⟨g, 0, none⟩)) ∧ (W.alloc o).cell? ⟨g, 0, none⟩ = some (.pointer (some ⟨p.d, 0, none⟩)) := fun W o h => ⟨(Kp.alloc none' W o).cell h.1 (fun h => h), (Kp.alloc none' W o).cell h.2 (fun h => h)⟩
  have HT : Hid (Calls Tryz.prog 28 #[.slice (some ⟨wa.heap.size, 0, none⟩) 4 4] (wa.alloc (.cells #[.func (.func 56) #[] #[.pointer (some ⟨b2, 0, none⟩), .pointer (some ⟨b2 + 1, 0, none⟩)],
      .func (.func 32) #[.pointer (some ⟨p.d, 0, none⟩)] #[], .func (.func 58) #[] #[.pointer (some ⟨b2, 0, none⟩)], .func (.func 32) #[.pointer (some ⟨p.d, 0, none⟩)] #[]] 67)).drew
      fun e w' => e = .returned (.int .i64 (D.goE (stW l))) ∧ Dev w' p (D.go (stW l)) ∧ Kp p.mem wa w') := by
    have hlen := stW_len l
    have hm := hok.m
    exact turn_new 990000 D.n p D _ [_, _, _] (plW l) [[.sy], [.wr 0 (markL false)], [.sy]] (stW l) wa _ (hD.keptN ka) rfl h0 (by simp [stW]) (by omega) (by simp)
      ((settle1_doer b2 (b2 + 1) g n D.n hn p _ l wa c2 c3 (ka.cell hc0 (fun h => h)) hgp hb2 hb3 hn2 (hS.keptN ka) hok).less (fun _ _ => trivial)) (.cons (sync_doer 990000 _ (by omega) p wa)
        (.cons (mark_doer (enters_of Tryz.func58 (by kernel_rfl) rfl) settle2_any 990000 (by omega) b2 g D.n (by omega) p wa c2 (ka.cell hc0 (fun h => h)) hgp hb2) (.cons (sync_doer 990000 _ (by omega) p wa) .nil)))
  clear kA
  refine wp_region_held_drew (S := fun W => W.cell? ⟨b2, 0, none⟩ = some (.pointer (some ⟨g, 0, none⟩)) ∧ W.cell? ⟨g, 0, none⟩ = some (.pointer (some ⟨p.d, 0, none⟩))) (by kernel_rfl) ⟨t2, t0⟩ (fun hHeld => ?_)
  refine take_at (i := 0) (d := 5) (v := ?_) rfl rfl (by kernel_rfl) (by kernel_rfl) (by kernel_rfl) (fun _ _ _ h => h) (Or.inl ⟨by rfl, ?_⟩) (by assumption) ?_
  rotate_left
  · intro W hSW
    try dsimp only at hSW
    go_simp
    try with_reducible rfl
  simp only [Act.put, List.setIfInBounds_toArray, List.set_cons_zero, List.set_cons_succ]
  refine take_at (i := 1) (d := 6) (v := ?_) rfl rfl (by kernel_rfl) (by kernel_rfl) (by kernel_rfl) (fun _ _ _ h => h) (Or.inl ⟨by rfl, ?_⟩) (by assumption) ?_
  rotate_left
  · intro W hSW
    try dsimp only at hSW
    go_simp
    try with_reducible rfl
  simp only [Act.put, List.setIfInBounds_toArray, List.set_cons_zero, List.set_cons_succ]
  refine take_at (i := 2) (d := 7) (v := ?_) rfl rfl (by kernel_rfl) (by kernel_rfl) (by kernel_rfl) (fun _ _ _ h => h) (Or.inl ⟨by rfl, ?_⟩) (by assumption) ?_
  rotate_left
  · intro W hSW
    try dsimp only at hSW
    go_simp
    try with_reducible rfl
  simp only [Act.put, List.setIfInBounds_toArray, List.set_cons_zero, List.set_cons_succ]
  refine take_at (i := 3) (d := 8) (v := ?_) rfl rfl (by kernel_rfl) (by kernel_rfl) (by kernel_rfl) (fun _ _ _ h => h) (Or.inl ⟨by rfl, ?_⟩) (by assumption) ?_
  rotate_left
  · intro W hSW
    try dsimp only at hSW
    go_simp
    try with_reducible rfl
  simp only [Act.put, List.setIfInBounds_toArray, List.set_cons_zero, List.set_cons_succ]
  refine take_at (i := 4) (d := 9) (v := ?_) rfl rfl (by kernel_rfl) (by kernel_rfl) (by kernel_rfl) (fun _ _ _ h => h) (Or.inl ⟨by rfl, ?_⟩) (by assumption) ?_
  rotate_left
  · intro W hSW
    try dsimp only at hSW
    go_simp
    try with_reducible rfl
  simp only [Act.put, List.setIfInBounds_toArray, List.set_cons_zero, List.set_cons_succ]
  refine take_at (i := 5) (d := 10) (v := ?_) rfl rfl (by kernel_rfl) (by kernel_rfl) (by kernel_rfl) (fun _ _ _ h => h) (Or.inl ⟨by rfl, ?_⟩) (by assumption) ?_
  rotate_left
  · intro W hSW
    try dsimp only at hSW
    go_simp
    try with_reducible rfl
  simp only [Act.put, List.setIfInBounds_toArray, List.set_cons_zero, List.set_cons_succ]
  refine take_at (i := 6) (d := 11) (v := ?_) rfl rfl (by kernel_rfl) (by kernel_rfl) (by kernel_rfl) (fun _ _ _ h => h) (Or.inl ⟨by rfl, ?_⟩) (by assumption) ?_
  rotate_left
  · intro W hSW
    try dsimp only at hSW
    go_simp
    try with_reducible rfl
  simp only [Act.put, List.setIfInBounds_toArray, List.set_cons_zero, List.set_cons_succ]
  refine take_at (i := 7) (d := 12) (v := ?_) rfl rfl (by kernel_rfl) (by kernel_rfl) (by kernel_rfl) (fun _ _ _ h => h) (Or.inl ⟨by rfl, ?_⟩) (by assumption) ?_
  rotate_left
  · intro W hSW
    try dsimp only at hSW
    go_simp
    try with_reducible rfl
  simp only [Act.put, List.setIfInBounds_toArray, List.set_cons_zero, List.set_cons_succ]
  refine take_at (i := 8) (d := 13) (v := ?_) rfl rfl (by kernel_rfl) (by kernel_rfl) (by kernel_rfl) (fun _ _ _ h => h) (Or.inl ⟨by rfl, ?_⟩) (by assumption) ?_
  rotate_left
  · intro W hSW
    try dsimp only at hSW
    go_simp
    try with_reducible rfl
  simp only [Act.put, List.setIfInBounds_toArray, List.set_cons_zero, List.set_cons_succ]
  refine take_at (i := 9) (d := 14) (v := ?_) rfl rfl (by kernel_rfl) (by kernel_rfl) (by kernel_rfl) (fun _ _ _ h => h) (Or.inl ⟨by rfl, ?_⟩) (by assumption) ?_
  rotate_left
  · intro W hSW
    try dsimp only at hSW
    go_simp
    try with_reducible rfl
  simp only [Act.put, List.setIfInBounds_toArray, List.set_cons_zero, List.set_cons_succ]
  refine take_at (i := 10) (d := 15) (v := ?_) rfl rfl (by kernel_rfl) (by kernel_rfl) (by kernel_rfl) (fun _ _ _ h => h) (Or.inl ⟨by rfl, ?_⟩) (by assumption) ?_
  rotate_left
  · intro W hSW
    try dsimp only at hSW
    go_simp
    try with_reducible rfl
  simp only [Act.put, List.setIfInBounds_toArray, List.set_cons_zero, List.set_cons_succ]
  refine take_at (i := 11) (d := 16) (v := ?_) rfl rfl (by kernel_rfl) (by kernel_rfl) (by kernel_rfl) (fun _ _ _ h => h) (Or.inl ⟨by rfl, ?_⟩) (by assumption) ?_
  rotate_left
  · intro W hSW
    try dsimp only at hSW
    go_simp
    try with_reducible rfl
  simp only [Act.put, List.setIfInBounds_toArray, List.set_cons_zero, List.set_cons_succ]
  refine wpAnyH_ready (rs := [12]) (by kernel_rfl) (by simp) ?_
  refine AllReadyH.cons rfl (fun K hK => ?_) AllReadyH.nil
  go_simp
  refine hK.out _ _ ⟨(Kp.alloc none' wa _).cell c2 (fun h => h), (Kp.alloc none' wa _).cell (ka.cell hc0 (fun h => h)) (fun h => h)⟩ (fun hHeld => ?_)
  clear hK K
  refine wpAnyH_ready (rs := [13]) (by kernel_rfl) (by simp) ?_
  refine AllReadyH.cons rfl (fun K hK => ?_) AllReadyH.nil
  go_simp
  go_wp2_with (go_at_call 28; refine HT.out.mono ?_; rintro e w2 ⟨rfl, hD2, hk2⟩)
  refine hK.out _ _ (⟨hk2.cell c2 hb2, hk2.cell (ka.cell hc0 (fun h => h)) hgp⟩) (fun hHeld => ?_)
  clear hK K
  refine take_at (i := 14) (d := 4) (v := ?_) rfl rfl (by kernel_rfl) (by kernel_rfl) (by kernel_rfl) (fun _ _ _ h => h) (Or.inl ⟨by rfl, ?_⟩) (by assumption) ?_
  rotate_left
  · intro W hSW
    try dsimp only at hSW
    go_simp
    try with_reducible rfl
  simp only [Act.put, List.setIfInBounds_toArray, List.set_cons_zero, List.set_cons_succ]
  refine wpAnyH_done (by kernel_rfl) ?_ _
  go_wp2
  go_ret
  exact ⟨rfl, hD2, ka.nThen hk2⟩

end Go.Proofs.YtgfijbbibafdfaaGreat
