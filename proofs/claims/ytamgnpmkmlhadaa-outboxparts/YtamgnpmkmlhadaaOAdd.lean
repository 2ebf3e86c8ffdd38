/- Contract, over the turned program: a message is added. Conditions: those that each theorem states. -/
import Derived.Test.YtamgnpmkmlhadaaOAck
namespace Go.Proofs.Ytamgnpmkmlhadaa
open Go Go.RowKit
set_option linter.unusedVariables false

theorem ostep_app {P : Program} {w : World} {ops : Array Oper} {o : Oper} {a : Act} {K : Act → World → Prop} {Q : Exit → Act → World → Prop} {E : Prop} (d : Nat) (hd : o.dst = some d) (hgd : o.guard = none) (s x : Operand) (t tx ty : TypeId) (hty : o.type = ty)
    (ho : o.op = .call { callee := .builtin .append, args := #[s, x], argTypes := #[t, tx] }) (v xv : Value) (hs : a.eval s = v) (hx : a.eval x = xv) {v' : Value} {w' : World}
    (hr : (Builtin.append_ #[t, tx] ty #[v, xv]).run P w = .ok v' w') (h : K (a.put (some d) v') w') : if Region.wanted o (yielded ops a.tmps) = true then Oper.wp P o a w K Q else E := by
  subst hty
  rw [← hd] at h
  have hw : Region.wanted o (yielded ops a.tmps) = true := by simp [Region.wanted, hgd]
  rw [if_pos hw]
  exact wp_app_at s x t tx ho v xv hs hx hr h
/-- The message that would be added. -/
def nxM (a : Nat) (l : List Ms) (f t : Int) (x : V) : Ms := ⟨(a : Int) + (l.length : Int) + 1, f, t, x⟩
theorem add_end {w w1 : World} {p : Nat} {v v1 : Value} {g g1 : Option Nat} {a : Nat} {l : List Ms} {m : Ms} (h : Bx w p v g a l) (hk : Kp (fun b => g = some b) w w1) (ho : OwO w1 v1 (l ++ [m]) g1) (hg : ∀ k, g1 = some k → g = some k ∨ w.heap.size ≤ k) (hq : m.q = (a : Int) + (l.length : Int) + 1) (hm : okM m = true) (hw : m.wf) (hl : a + l.length < 1000) :
    Nx p g a (l ++ [m]) w (w1.setCell ⟨p, 1, none⟩ v1) := by
  have hp1 : w1.heap[p]? = some (.cells #[.int .i64 a, v] 73 (0, 0)) := by rw [hk.block p h.lt (fun e => h.ne p e rfl)]; exact h.hp
  have h1 := heap_setCell_same w1 p 1 _ 73 v1 hp1
  have k2 : Kp (fun k => k = p) w1 (w1.setCell ⟨p, 1, none⟩ v1) := Kp.setCell (S := fun k => k = p) w1 p 1 v1 rfl
  have hne : ∀ k, g1 = some k → k ≠ p := fun k e ep => by
    rcases hg k e with h3 | h3
    · exact h.ne k h3 ep
    · have := h.lt; omega
  refine ⟨v1, g1, ⟨h1, ho.kept k2 hne, hne, h.rw.snoc m hq hm hw, ?_⟩, hk.trans k2 (fun k _ e => .inr e) (fun k _ e => .inl e), hg⟩
  rw [List.length_append]
  simp
  omega
set_option maxRecDepth 100000 in
set_option maxHeartbeats 1000000 in
theorem oadd_ok {p : Nat} {v : Value} {g : Option Nat} {a : Nat} {l : List Ms} (f t : Int) (x : V) (w : World) (h : Bx w p v g a l) (hf : ir f) (ht : ir t) (hx : x.wf) (hl : a + l.length < 1000) (hk : okM (nxM a l f t x) = true) :
    Calls Try.prog 16 #[.pointer (some ⟨p, 0, none⟩), .int .i64 f, .int .i64 t, x.val] w fun e w' => e = .returned (.tuple #[.int .i64 ((a : Int) + (l.length : Int) + 1), .int .i64 0]) ∧ Nx p g a (l ++ [nxM a l f t x]) w w' := by
  have hm : (nxM a l f t x).wf := ⟨by unfold nxM ir; dsimp only; omega, hf, ht, hx⟩
  have hwr : IntKind.i64.wrap ((a : Int) + (l.length : Int) + 1) = (a : Int) + (l.length : Int) + 1 := by rw [IntKind.wrap_i64]; omega
  have hsz : (w.alloc (.cells #[.int .i64 x.k, .int .i64 x.n, .string x.s] 24)).heap.size = w.heap.size + 1 := World.size_alloc _ _
  have hmb := Mb.new (w.alloc (.cells #[.int .i64 x.k, .int .i64 x.n, .string x.s] 24)) (nxM a l f t x)
  rw [hsz] at hmb
  have hk2 := (((Kp.alloc none' w (.cells #[.int .i64 x.k, .int .i64 x.n, .string x.s] 24)).then (Kp.alloc none' _ (.cells #[.int .i64 ((a : Int) + (l.length : Int) + 1), .int .i64 f, .int .i64 t, .int .i64 x.k, .int .i64 x.n, .string x.s] 26)))).then (Kp.drew none' _)
  have hmb := hide (hmb.kept (row := none) ⟨rfl, rfl, rfl, Nat.le_refl _, fun _ _ _ => rfl⟩ (by simp) : Mb (((w.alloc (.cells #[.int .i64 x.k, .int .i64 x.n, .string x.s] 24)).alloc (.cells #[.int .i64 ((a : Int) + (l.length : Int) + 1), .int .i64 f, .int .i64 t, .int .i64 x.k, .int .i64 x.n, .string x.s] 26)).drew) (w.heap.size + 1) (nxM a l f t x))
  have hk2 := hide hk2
  have hL := hide (fun W (k : Kp none' w W) => olast_any W (h.keptN k))
  have H := hide h
  have hplt := h.lt
  clear h
  obtain ⟨m, Hm⟩ : ∃ m, Hid (nxM a l f t x = m) := ⟨_, rfl⟩
  rw [Hm.out] at hk hm hmb ⊢
  have HW := hide (fun W => owrite_any m W hm)
  obtain ⟨e1, e2, e3⟩ := m_ok hk
  rw [e1, e2, e3] at HW
  obtain ⟨K1, HK1⟩ : ∃ K1, Hid (mkB (keyM m) = K1) := ⟨_, rfl⟩
  obtain ⟨K2, HK2⟩ : ∃ K2, Hid (mkB (rstM m) = K2) := ⟨_, rfl⟩
  rw [HK1.out, HK2.out] at HW
  clear e1 e2 e3 HK1 HK2
  unfold V.val
  go_enter Try.func16, Try.ntmps16
  go_upto_region 3 with fail
  go_cut [10] from 10 to 44 (fun y W => y = .pointer (some ⟨w.heap.size + 1, 0, none⟩) ∧ Mb W (w.heap.size + 1) m ∧ Kp none' w W)
  case first =>
    go_region_with (go_at_call 24; refine (hL.out _ (by first | exact (Kp.alloc _ _ _).then (Kp.drew _ _) | exact ((Kp.alloc _ _ _).then (Kp.alloc _ _ _)).then (Kp.drew _ _) | exact Kp.alloc _ _ _)).mono ?_; rintro e w1 ⟨rfl, rfl⟩)
    all_goals go_wp2
    all_goals try rw [hwr]
    all_goals go_meet
    all_goals exact ⟨rfl, hmb.out, hk2.out⟩
  case rest =>
    obtain ⟨rfl, hb2, k2⟩ := hcut
    obtain ⟨m0, m1, m2, m3, m4, m5⟩ := hb2.cs
    unfold Ms.val at HW
    have HB := hide hb2
    clear hmb hk2
    go_upto_region 7 with (go_at_call 9; refine (HW.out _).mono ?_; clear HW; rintro e w4 ⟨rfl, hg4⟩)
    have k4 := k2.then (Kp.ofN hg4 none')
    have H4 := H.out.keptN k4
    have hb4 := HB.out.kept hg4 (by simp)
    obtain ⟨n0, n1, n2, n3, n4, n5⟩ := hb4.cs
    have c1 := H4.c1
    have f1 := H4.fz 1
    have hqp : ¬ Ft p g (w.heap.size + 1) := fun hf => by have := H.out.ltF _ hf; omega
    have hEnd := hide (fun W v1 g1 (k5 : Kp none' w4 W) (W3 : World) ho k6 hg => add_end (w := W) (w1 := W3) (v1 := v1) (g1 := g1) (m := m) (H4.keptN k5) k6 ho hg (by rw [← Hm.out]; rfl) hk hm hl)
    have hApp := hide (fun W (k5 : Kp none' w4 W) (q : Nat) (hq : Mb W q m) => app_o W v l g m _ ((H4.keptN k5).ow) (rw_oneM m hq) (by omega))
    have hvs : ∃ a' c', v = .slice a' l.length c' := by obtain ⟨a', c', e, _⟩ := H4.ow.len; exact ⟨a', c', e⟩
    have hK4 := hide k4
    obtain ⟨va, vc, rfl⟩ := hvs
    have hq0 : Hid (m.q = (a : Int) + (l.length : Int) + 1) := by rw [← Hm.out]; exact hide rfl
    obtain ⟨W5, hW5⟩ : ∃ W5, (w4.alloc (.cells #[.int .i64 m.q, .int .i64 m.f, .int .i64 m.t, .int .i64 m.v.k, .int .i64 m.v.n, .string m.v.s] 26)).drew = W5 := ⟨_, rfl⟩
    have hb5 : Mb W5 w4.heap.size m := by rw [← hW5]; exact (Mb.new w4 m).kept (row := none) ⟨rfl, rfl, rfl, Nat.le_refl _, fun _ _ _ => rfl⟩ (by simp)
    have k5 : Kp none' w4 W5 := by rw [← hW5]; exact (Kp.alloc _ _ _).then (Kp.drew _ _)
    have k5F := hide (k5.mono (S' := Ft p g) (fun _ _ h => h.elim))
    obtain ⟨ra, rc, w6, g6, hrun, ho6, hk6, hg6⟩ := hApp.out W5 k5 w4.heap.size hb5
    have HN := hide (Nx.from (k4.then k5) (hEnd.out W5 _ g6 k5 w6 ho6 hk6 (fun k e => by
      rcases hg6 with h | ⟨b, h1, h2⟩
      · exact .inl (by rw [← h]; exact e)
      · rw [h1] at e
        cases e
        exact .inr h2)))
    have k6F := hide ((k5.mono (S' := Ft p g) (fun _ _ h => h.elim)).then (hk6.mono (S' := Ft p g) (fun _ _ h => .inr h)))
    have k6p := k5.nThen hk6
    have hgp : ¬ g = some p := fun e => H4.ne p e rfl
    have x1 := k6p.cell c1 hgp
    have z1 := (k6p.frozen H4.lt hgp).trans f1
    have x0 := k6p.cell n0 (fun e => hqp (.inr e))
    rw [hq0.out] at x0
    have hqp2 : ¬ p = w.heap.size + 1 := fun e => hqp (.inl e.symm)
    have hw41 : w4.heap.size + 1 ≤ W5.heap.size := by have := hb5.lt; omega
    have c5 := k5.cell c1 (fun h => h)
    clear hApp hEnd k5 hb5 ho6 hk6 hg6 k6p f1 hgp
    clear H H4 hb4 hg4 k4 k2 hb2 m0 m1 m2 m3 m4 m5 HB
    refine wp_region_held_drew (S := fun W => Kp (Ft p g) w4 W) (by kernel_rfl) (Kp.drew _ _) (fun hHeld => ?_)
    refine take_ato (i := 0) (d := 32) (v := ?_) rfl rfl (by kernel_rfl) (by kernel_rfl) (by kernel_rfl) (fun _ _ _ h => h) (Or.inl ⟨by rfl, ?_⟩) (by assumption) ?_
    rotate_left
    · intro W hSW
      try dsimp only at hSW
      go_simp
      try with_reducible rfl
    try simp only [Act.put, List.setIfInBounds_toArray, List.set_cons_zero, List.set_cons_succ]
    refine take_ato (i := 1) (d := 33) (v := ?_) rfl rfl (by kernel_rfl) (by kernel_rfl) (by kernel_rfl) (fun _ _ _ h => h) (Or.inl ⟨by rfl, ?_⟩) (by assumption) ?_
    rotate_left
    · intro W hSW
      try dsimp only at hSW
      go_simp
      try with_reducible rfl
    try simp only [Act.put, List.setIfInBounds_toArray, List.set_cons_zero, List.set_cons_succ]
    refine take_ato (i := 2) (d := 34) (v := ?_) rfl rfl (by kernel_rfl) (by kernel_rfl) (by kernel_rfl) (fun _ _ _ h => h) (Or.inl ⟨by rfl, ?_⟩) (by assumption) ?_
    rotate_left
    · intro W hSW
      try dsimp only at hSW
      go_simp
      try with_reducible rfl
    try simp only [Act.put, List.setIfInBounds_toArray, List.set_cons_zero, List.set_cons_succ]
    refine take_ato (i := 3) (d := 35) (v := ?_) rfl rfl (by kernel_rfl) (by kernel_rfl) (by kernel_rfl) (fun _ _ _ h => h) (Or.inl ⟨by rfl, ?_⟩) (by assumption) ?_
    rotate_left
    · intro W hSW
      try dsimp only at hSW
      go_simp
      try with_reducible rfl
    try simp only [Act.put, List.setIfInBounds_toArray, List.set_cons_zero, List.set_cons_succ]
    refine take_ato (i := 5) (d := 37) (v := ?_) rfl rfl (by kernel_rfl) (by kernel_rfl) (by kernel_rfl) (fun _ _ _ h => h) (Or.inl ⟨by rfl, ?_⟩) (by assumption) ?_
    rotate_left
    · intro W hSW
      try dsimp only at hSW
      have y0 := hSW.cell n0 hqp
      have y1 := hSW.cell n1 hqp
      have y2 := hSW.cell n2 hqp
      have y3 := hSW.cell n3 hqp
      have y4 := hSW.cell n4 hqp
      have y5 := hSW.cell n5 hqp
      go_simp
      try with_reducible rfl
    try simp only [Act.put, List.setIfInBounds_toArray, List.set_cons_zero, List.set_cons_succ]
    refine wpAnyH_ready (rs := [4, 6]) (by kernel_rfl) (by simp) ?_
    refine AllReadyH.cons rfl (fun K hK => ?_) ?_
    · go_simp
      refine hK.out _ _ (Kp.drew _ _) (fun hHeld => ?_)
      clear hK K
      try simp only [Act.put, List.setIfInBounds_toArray, List.set_cons_zero, List.set_cons_succ]
      refine wpAnyH_ready (rs := [6]) (by kernel_rfl) (by simp) ?_
      refine AllReadyH.cons rfl (fun K hK => ?_) ?_
      · go_simp
        refine hK.out _ _ (k5F.out) (fun hHeld => ?_)
        clear hK K
        try simp only [Act.put, List.setIfInBounds_toArray, List.set_cons_zero, List.set_cons_succ]
        refine wpAnyH_ready (rs := [7]) (by kernel_rfl) (by simp) ?_
        refine AllReadyH.cons rfl (fun K hK => ?_) ?_
        · try rw [hW5]
          refine ostep_app 39 (by rfl) (by rfl) (.tmp 36) (.tmp 38) 39 39 39 (by rfl) (by rfl) (.slice va l.length vc) (.slice (some ⟨w4.heap.size, 0, none⟩) 1 1) (by rfl) (by rfl) hrun ?_
          refine hK.out _ _ (k6F.out) (fun hHeld => ?_)
          clear hK K
          try simp only [Act.put, List.setIfInBounds_toArray, List.set_cons_zero, List.set_cons_succ]
          refine take_ato (i := 8) (d := 40) (v := ?_) rfl rfl (by kernel_rfl) (by kernel_rfl) (by kernel_rfl) (fun _ _ _ h => h) (Or.inl ⟨by rfl, ?_⟩) (by assumption) ?_
          rotate_left
          · intro W hSW
            try dsimp only at hSW
            go_simp
            try with_reducible rfl
          try simp only [Act.put, List.setIfInBounds_toArray, List.set_cons_zero, List.set_cons_succ]
          refine take_ato (i := 9) (d := 41) (v := ?_) rfl rfl (by kernel_rfl) (by kernel_rfl) (by kernel_rfl) (fun _ _ _ h => h) (Or.inl ⟨by rfl, ?_⟩) (by assumption) ?_
          rotate_left
          · intro W hSW
            try dsimp only at hSW
            go_simp
            try with_reducible rfl
          try simp only [Act.put, List.setIfInBounds_toArray, List.set_cons_zero, List.set_cons_succ]
          refine wpAnyH_ready (rs := [10]) (by kernel_rfl) (by simp) ?_
          refine AllReadyH.cons rfl (fun K hK => ?_) ?_
          · go_simp
            refine hK.out _ _ (k6F.out.then (Kp.setCell _ _ _ _ (.inl rfl))) (fun hHeld => ?_)
            clear hK K
            try simp only [Act.put, List.setIfInBounds_toArray, List.set_cons_zero, List.set_cons_succ]
            refine wpAnyH_done (by kernel_rfl) ?_ _
            go_wp2
            go_ret2
            exact ⟨rfl, HN.out⟩
          exact AllReadyH.nil
        exact AllReadyH.nil
      exact AllReadyH.nil
    refine AllReadyH.cons rfl (fun K hK => ?_) ?_
    · go_simp
      refine hK.out _ _ (k5F.out) (fun hHeld => ?_)
      clear hK K
      try simp only [Act.put, List.setIfInBounds_toArray, List.set_cons_zero, List.set_cons_succ]
      refine wpAnyH_ready (rs := [4]) (by kernel_rfl) (by simp) ?_
      refine AllReadyH.cons rfl (fun K hK => ?_) ?_
      · go_simp
        refine hK.out _ _ (k5F.out) (fun hHeld => ?_)
        clear hK K
        try simp only [Act.put, List.setIfInBounds_toArray, List.set_cons_zero, List.set_cons_succ]
        refine wpAnyH_ready (rs := [7]) (by kernel_rfl) (by simp) ?_
        refine AllReadyH.cons rfl (fun K hK => ?_) ?_
        · try rw [hW5]
          refine ostep_app 39 (by rfl) (by rfl) (.tmp 36) (.tmp 38) 39 39 39 (by rfl) (by rfl) (.slice va l.length vc) (.slice (some ⟨w4.heap.size, 0, none⟩) 1 1) (by rfl) (by rfl) hrun ?_
          refine hK.out _ _ (k6F.out) (fun hHeld => ?_)
          clear hK K
          try simp only [Act.put, List.setIfInBounds_toArray, List.set_cons_zero, List.set_cons_succ]
          refine take_ato (i := 8) (d := 40) (v := ?_) rfl rfl (by kernel_rfl) (by kernel_rfl) (by kernel_rfl) (fun _ _ _ h => h) (Or.inl ⟨by rfl, ?_⟩) (by assumption) ?_
          rotate_left
          · intro W hSW
            try dsimp only at hSW
            go_simp
            try with_reducible rfl
          try simp only [Act.put, List.setIfInBounds_toArray, List.set_cons_zero, List.set_cons_succ]
          refine take_ato (i := 9) (d := 41) (v := ?_) rfl rfl (by kernel_rfl) (by kernel_rfl) (by kernel_rfl) (fun _ _ _ h => h) (Or.inl ⟨by rfl, ?_⟩) (by assumption) ?_
          rotate_left
          · intro W hSW
            try dsimp only at hSW
            go_simp
            try with_reducible rfl
          try simp only [Act.put, List.setIfInBounds_toArray, List.set_cons_zero, List.set_cons_succ]
          refine wpAnyH_ready (rs := [10]) (by kernel_rfl) (by simp) ?_
          refine AllReadyH.cons rfl (fun K hK => ?_) ?_
          · go_simp
            refine hK.out _ _ (k6F.out.then (Kp.setCell _ _ _ _ (.inl rfl))) (fun hHeld => ?_)
            clear hK K
            try simp only [Act.put, List.setIfInBounds_toArray, List.set_cons_zero, List.set_cons_succ]
            refine wpAnyH_done (by kernel_rfl) ?_ _
            go_wp2
            go_ret2
            exact ⟨rfl, HN.out⟩
          exact AllReadyH.nil
        exact AllReadyH.nil
      exact AllReadyH.nil
    exact AllReadyH.nil
set_option maxRecDepth 100000 in
set_option maxHeartbeats 1000000 in
theorem oadd_no {p : Nat} {v : Value} {g : Option Nat} {a : Nat} {l : List Ms} (f t : Int) (x : V) (w : World) (h : Bx w p v g a l) (hf : ir f) (ht : ir t) (hx : x.wf) (hl : a + l.length < 1000) (hk : okM (nxM a l f t x) = false) :
    Calls Try.prog 16 #[.pointer (some ⟨p, 0, none⟩), .int .i64 f, .int .i64 t, x.val] w fun e w' => e = .returned (.tuple #[.int .i64 0, .int .i64 4]) ∧ Kp none' w w' := by
  have hm : (nxM a l f t x).wf := ⟨by unfold nxM ir; dsimp only; omega, hf, ht, hx⟩
  have hwr : IntKind.i64.wrap ((a : Int) + (l.length : Int) + 1) = (a : Int) + (l.length : Int) + 1 := by rw [IntKind.wrap_i64]; omega
  have hsz : (w.alloc (.cells #[.int .i64 x.k, .int .i64 x.n, .string x.s] 24)).heap.size = w.heap.size + 1 := World.size_alloc _ _
  have hmb := Mb.new (w.alloc (.cells #[.int .i64 x.k, .int .i64 x.n, .string x.s] 24)) (nxM a l f t x)
  rw [hsz] at hmb
  have hk2 := (((Kp.alloc none' w (.cells #[.int .i64 x.k, .int .i64 x.n, .string x.s] 24)).then (Kp.alloc none' _ (.cells #[.int .i64 ((a : Int) + (l.length : Int) + 1), .int .i64 f, .int .i64 t, .int .i64 x.k, .int .i64 x.n, .string x.s] 26)))).then (Kp.drew none' _)
  have hmb := hide (hmb.kept (row := none) ⟨rfl, rfl, rfl, Nat.le_refl _, fun _ _ _ => rfl⟩ (by simp) : Mb (((w.alloc (.cells #[.int .i64 x.k, .int .i64 x.n, .string x.s] 24)).alloc (.cells #[.int .i64 ((a : Int) + (l.length : Int) + 1), .int .i64 f, .int .i64 t, .int .i64 x.k, .int .i64 x.n, .string x.s] 26)).drew) (w.heap.size + 1) (nxM a l f t x))
  have hk2 := hide hk2
  have hL := hide (fun W (k : Kp none' w W) => olast_any W (h.keptN k))
  have H := hide h
  have hplt := h.lt
  clear h
  obtain ⟨m, Hm⟩ : ∃ m, Hid (nxM a l f t x = m) := ⟨_, rfl⟩
  rw [Hm.out] at hk hm hmb
  have HW := hide (fun W => owrite_any m W hm)
  obtain ⟨e1, e2, e3⟩ := m_no hk
  rw [e1, e2, e3] at HW
  obtain ⟨K1, HK1⟩ : ∃ K1, Hid (mkB [] = K1) := ⟨_, rfl⟩
  rw [HK1.out] at HW
  clear e1 e2 e3 HK1
  unfold V.val
  go_enter Try.func16, Try.ntmps16
  go_upto_region 3 with fail
  go_cut [10] from 10 to 44 (fun y W => y = .pointer (some ⟨w.heap.size + 1, 0, none⟩) ∧ Mb W (w.heap.size + 1) m ∧ Kp none' w W)
  case first =>
    go_region_with (go_at_call 24; refine (hL.out _ (by first | exact (Kp.alloc _ _ _).then (Kp.drew _ _) | exact ((Kp.alloc _ _ _).then (Kp.alloc _ _ _)).then (Kp.drew _ _) | exact Kp.alloc _ _ _)).mono ?_; rintro e w1 ⟨rfl, rfl⟩)
    all_goals go_wp2
    all_goals try rw [hwr]
    all_goals go_meet
    all_goals exact ⟨rfl, hmb.out, hk2.out⟩
  case rest =>
    obtain ⟨rfl, hb2, k2⟩ := hcut
    obtain ⟨m0, m1, m2, m3, m4, m5⟩ := hb2.cs
    unfold Ms.val at HW
    have K2 := hide k2
    clear hmb hk2 k2
    go_wp2_with (go_at_call 9; refine (HW.out _).mono ?_; clear HW; rintro e w4 ⟨rfl, hg4⟩)
    go_ret2
    exact ⟨rfl, K2.out.then (Kp.ofN hg4 none')⟩

end Go.Proofs.Ytamgnpmkmlhadaa
