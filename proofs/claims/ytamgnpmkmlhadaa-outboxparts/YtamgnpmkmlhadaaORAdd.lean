/- Contract, over the turned program: the document's Add of a box. Conditions: those that each theorem states. -/
import Derived.Test.YtamgnpmkmlhadaaOQx
import Derived.Test.YtamgnpmkmlhadaaORefR
namespace Go.Proofs.Ytamgnpmkmlhadaa
open Go Go.RowKit
set_option linter.unusedVariables false

set_option maxRecDepth 100000 in
set_option maxHeartbeats 2000000 in
theorem radd_no {q : Nat} {v : Value} {g : Option Nat} {a z : Int} {l : List Ms} (f t : Int) (x : V) (w : World) (h : Qx w q v g a z l) (hz : 0 ≤ z ∧ z < 1000) (hl : l.length ≤ 1000) (hk : okM ⟨z + 1, f, t, x⟩ = false) :
    Calls Try.prog 17 #[.pointer (some ⟨q, 0, none⟩), .int .i64 f, .int .i64 t, x.val] w fun e w' => e = .returned (.tuple #[.int .i64 0, .int .i64 4]) ∧ Kp none' w w' := by
  have hwr : IntKind.i64.wrap (z + 1) = z + 1 := by rw [IntKind.wrap_i64]; omega
  have hsz : (w.alloc (.cells #[.int .i64 x.k, .int .i64 x.n, .string x.s] 24)).heap.size = w.heap.size + 1 := World.size_alloc _ _
  have hmb := Mb.new (w.alloc (.cells #[.int .i64 x.k, .int .i64 x.n, .string x.s] 24)) ⟨z + 1, f, t, x⟩
  rw [hsz] at hmb
  have hk2 := (((Kp.alloc none' w (.cells #[.int .i64 x.k, .int .i64 x.n, .string x.s] 24)).then (Kp.alloc none' _ (.cells #[.int .i64 (z + 1), .int .i64 f, .int .i64 t, .int .i64 x.k, .int .i64 x.n, .string x.s] 26)))).then (Kp.drew none' _)
  have hmb := hide (hmb.kept (row := none) ⟨rfl, rfl, rfl, Nat.le_refl _, fun _ _ _ => rfl⟩ (by simp) : Mb (((w.alloc (.cells #[.int .i64 x.k, .int .i64 x.n, .string x.s] 24)).alloc (.cells #[.int .i64 (z + 1), .int .i64 f, .int .i64 t, .int .i64 x.k, .int .i64 x.n, .string x.s] 26)).drew) (w.heap.size + 1) ⟨z + 1, f, t, x⟩)
  have hk2 := hide hk2
  have H := hide h
  have c2 := h.c2
  have hqlt := h.lt
  clear h
  obtain ⟨m, Hm⟩ : ∃ m : Ms, Hid ((⟨z + 1, f, t, x⟩ : Ms) = m) := ⟨_, rfl⟩
  rw [Hm.out] at hk hmb
  have HW := hide (fun W => rright19_any m W)
  rw [hk] at HW
  unfold V.val
  go_enter Try.func17, Try.ntmps17
  go_upto_region 1 with fail
  go_cut [10] from 10 to 44 (fun y W => y = .pointer (some ⟨w.heap.size + 1, 0, none⟩) ∧ Mb W (w.heap.size + 1) m ∧ Kp none' w W)
  case first =>
    go_region
    all_goals go_wp2
    all_goals try rw [hwr]
    all_goals go_meet
    all_goals exact ⟨rfl, hmb.out, hk2.out⟩
  case rest =>
    obtain ⟨rfl, hb2, k2⟩ := hcut
    obtain ⟨m0, m1, m2, m3, m4, m5⟩ := hb2.cs
    unfold Ms.val at HW
    have K2 := hide k2
    clear hmb hk2 k2 c2 H
    go_wp2_with (go_at_call 30; refine (HW.out _).mono ?_; clear HW; rintro e w4 ⟨rfl, hg4⟩)
    go_ret2
    exact ⟨rfl, K2.out.then (Kp.ofN hg4 none')⟩
set_option maxRecDepth 100000 in
set_option maxHeartbeats 2000000 in
theorem radd_ok {q : Nat} {v : Value} {g : Option Nat} {a z : Int} {l : List Ms} (f t : Int) (x : V) (w : World) (h : Qx w q v g a z l) (hz : 0 ≤ z ∧ z < 1000) (hl : l.length ≤ 1000) (hk : okM ⟨z + 1, f, t, x⟩ = true) :
    Calls Try.prog 17 #[.pointer (some ⟨q, 0, none⟩), .int .i64 f, .int .i64 t, x.val] w fun e w' => e = .returned (.tuple #[.int .i64 (z + 1), .int .i64 0]) ∧ Nq q g a (z + 1) (l ++ [⟨z + 1, f, t, x⟩]) w w' := by
  have hwr : IntKind.i64.wrap (z + 1) = z + 1 := by rw [IntKind.wrap_i64]; omega
  have hsz : (w.alloc (.cells #[.int .i64 x.k, .int .i64 x.n, .string x.s] 24)).heap.size = w.heap.size + 1 := World.size_alloc _ _
  have hmb := Mb.new (w.alloc (.cells #[.int .i64 x.k, .int .i64 x.n, .string x.s] 24)) ⟨z + 1, f, t, x⟩
  rw [hsz] at hmb
  have hk2 := (((Kp.alloc none' w (.cells #[.int .i64 x.k, .int .i64 x.n, .string x.s] 24)).then (Kp.alloc none' _ (.cells #[.int .i64 (z + 1), .int .i64 f, .int .i64 t, .int .i64 x.k, .int .i64 x.n, .string x.s] 26)))).then (Kp.drew none' _)
  have hmb := hide (hmb.kept (row := none) ⟨rfl, rfl, rfl, Nat.le_refl _, fun _ _ _ => rfl⟩ (by simp) : Mb (((w.alloc (.cells #[.int .i64 x.k, .int .i64 x.n, .string x.s] 24)).alloc (.cells #[.int .i64 (z + 1), .int .i64 f, .int .i64 t, .int .i64 x.k, .int .i64 x.n, .string x.s] 26)).drew) (w.heap.size + 1) ⟨z + 1, f, t, x⟩)
  have hk2 := hide hk2
  have H := hide h
  have c2 := h.c2
  have hqlt := h.lt
  clear h
  obtain ⟨m, Hm⟩ : ∃ m : Ms, Hid ((⟨z + 1, f, t, x⟩ : Ms) = m) := ⟨_, rfl⟩
  rw [Hm.out] at hk hmb ⊢
  have HW := hide (fun W => rright19_any m W)
  rw [hk] at HW
  unfold V.val
  go_enter Try.func17, Try.ntmps17
  go_upto_region 1 with fail
  go_cut [10] from 10 to 44 (fun y W => y = .pointer (some ⟨w.heap.size + 1, 0, none⟩) ∧ Mb W (w.heap.size + 1) m ∧ Kp none' w W)
  case first =>
    go_region
    all_goals go_wp2
    all_goals try rw [hwr]
    all_goals go_meet
    all_goals exact ⟨rfl, hmb.out, hk2.out⟩
  case rest =>
    obtain ⟨rfl, hb2, k2⟩ := hcut
    obtain ⟨m0, m1, m2, m3, m4, m5⟩ := hb2.cs
    unfold Ms.val at HW
    have HB := hide hb2
    clear hmb hk2 c2
    have H2 := H.out.keptN k2
    go_upto_region 4 with (go_at_call 30; refine (HW.out _).mono ?_; clear HW; rintro e w3 ⟨rfl, hg3⟩; have k3 := k2.then (Kp.ofN hg3 none'); have H3 := H2.keptN (Kp.ofN hg3 none'); have hb3 := HB.out.kept hg3 (by simp))
    clear m0 m1 m2 m3 m4 m5 hb2 HB H2 k2 hg3
    have d2 := H3.c2
    have f2 := H3.fz 2
    have hqp2 : ¬ q = w.heap.size + 1 := by omega
    have hqp : ¬ Ft q g (w.heap.size + 1) := fun hf => by have := H.out.ltF _ hf; omega
    have H4' := H3.set2 (z + 1)
    have hb4' := hb3.kp (Kp.setCell (S := fun k => k = q) w3 q 2 (.int .i64 (z + 1)) rfl) (fun e => hqp2 e.symm)
    have k4' := (k3.mono (S' := Ft q g) (fun _ _ h => h.elim)).then (Kp.setCell (S := Ft q g) w3 q 2 (.int .i64 (z + 1)) (.inl rfl))
    go_upto_region 5 with fail
    try rw [hwr]
    obtain ⟨w4, hw4⟩ : ∃ w4, w3.setCell ⟨q, 2, none⟩ (.int .i64 (z + 1)) = w4 := ⟨_, rfl⟩
    rw [hw4] at H4' hb4' k4' ⊢
    clear hw4 d2 f2 H3 hb3 k3
    have H4 := H4'
    have hb4 := hb4'
    have k4 := k4'
    clear H4' hb4' k4'
    obtain ⟨n0, n1, n2, n3, n4, n5⟩ := hb4.cs
    have c0 := H4.c0
    have f0 := H4.fz 0
    have hvs : ∃ a' c', v = .slice a' l.length c' := by obtain ⟨a', c', e, _⟩ := H4.ow.len; exact ⟨a', c', e⟩
    obtain ⟨va, vc, rfl⟩ := hvs
    have hq0 : Hid (m.q = z + 1) := by rw [← Hm.out]; exact hide rfl
    obtain ⟨W5, hW5⟩ : ∃ W5, (w4.alloc (.cells #[.int .i64 m.q, .int .i64 m.f, .int .i64 m.t, .int .i64 m.v.k, .int .i64 m.v.n, .string m.v.s] 26)).drew = W5 := ⟨_, rfl⟩
    have hb5 : Mb W5 w4.heap.size m := by rw [← hW5]; exact (Mb.new w4 m).kept (row := none) ⟨rfl, rfl, rfl, Nat.le_refl _, fun _ _ _ => rfl⟩ (by simp)
    have k5 : Kp none' w4 W5 := by rw [← hW5]; exact (Kp.alloc _ _ _).then (Kp.drew _ _)
    have k5F := hide (k5.mono (S' := Ft q g) (fun _ _ h => h.elim))
    obtain ⟨ra, rc, w6, g6, hrun, ho6, hk6, hg6⟩ := app_o W5 _ l g m _ ((H4.keptN k5).ow) (rw_oneM m hb5) (by omega)
    have HN := hide (Nq.from (k4.then (k5.mono (fun _ _ h => h.elim))) ((H4.keptN k5).put hk6 ho6 (fun k e => by
      rcases hg6 with h | ⟨b, h1, h2⟩
      · exact .inl (by rw [← h]; exact e)
      · rw [h1] at e
        cases e
        exact .inr h2)))
    have k6F := hide ((k5.mono (S' := Ft q g) (fun _ _ h => h.elim)).then (hk6.mono (S' := Ft q g) (fun _ _ h => .inr h)))
    have k6p := k5.nThen hk6
    have hgp : ¬ g = some q := fun e => H4.ne q e rfl
    have x0 := k6p.cell c0 hgp
    have x2 := k6p.cell H4.c2 hgp
    have z0 := (k6p.frozen H4.lt hgp).trans f0
    have c5 := k5.cell c0 (fun h => h)
    clear k5 hb5 ho6 hk6 hg6 k6p f0 hgp
    clear H H4 hb4 k4
    refine wp_region_held_drew (S := fun W => Kp (Ft q g) w4 W) (by kernel_rfl) (Kp.drew _ _) (fun hHeld => ?_)
    refine take_ato (i := 0) (d := 30) (v := ?_) rfl rfl (by kernel_rfl) (by kernel_rfl) (by kernel_rfl) (fun _ _ _ h => h) (Or.inl ⟨by rfl, ?_⟩) (by assumption) ?_
    rotate_left
    · intro W hSW
      try dsimp only at hSW
      go_simp
      try with_reducible rfl
    try simp only [Act.put, List.setIfInBounds_toArray, List.set_cons_zero, List.set_cons_succ]
    refine take_ato (i := 1) (d := 31) (v := ?_) rfl rfl (by kernel_rfl) (by kernel_rfl) (by kernel_rfl) (fun _ _ _ h => h) (Or.inl ⟨by rfl, ?_⟩) (by assumption) ?_
    rotate_left
    · intro W hSW
      try dsimp only at hSW
      go_simp
      try with_reducible rfl
    try simp only [Act.put, List.setIfInBounds_toArray, List.set_cons_zero, List.set_cons_succ]
    refine take_ato (i := 2) (d := 32) (v := ?_) rfl rfl (by kernel_rfl) (by kernel_rfl) (by kernel_rfl) (fun _ _ _ h => h) (Or.inl ⟨by rfl, ?_⟩) (by assumption) ?_
    rotate_left
    · intro W hSW
      try dsimp only at hSW
      go_simp
      try with_reducible rfl
    try simp only [Act.put, List.setIfInBounds_toArray, List.set_cons_zero, List.set_cons_succ]
    refine take_ato (i := 3) (d := 33) (v := ?_) rfl rfl (by kernel_rfl) (by kernel_rfl) (by kernel_rfl) (fun _ _ _ h => h) (Or.inl ⟨by rfl, ?_⟩) (by assumption) ?_
    rotate_left
    · intro W hSW
      try dsimp only at hSW
      go_simp
      try with_reducible rfl
    try simp only [Act.put, List.setIfInBounds_toArray, List.set_cons_zero, List.set_cons_succ]
    refine take_ato (i := 5) (d := 35) (v := ?_) rfl rfl (by kernel_rfl) (by kernel_rfl) (by kernel_rfl) (fun _ _ _ h => h) (Or.inl ⟨by rfl, ?_⟩) (by assumption) ?_
    rotate_left
    · intro W hSW
      try dsimp only at hSW
      have y0 := hSW.cell n0 hqp
      have y1 := hSW.cell n1 hqp
      have y2 := hSW.cell n2 hqp
      have y3 := hSW.cell n3 hqp
      have y4 := hSW.cell n4 hqp
      have y5 := hSW.cell n5 hqp
      go_simp
      try with_reducible rfl
    try simp only [Act.put, List.setIfInBounds_toArray, List.set_cons_zero, List.set_cons_succ]
    refine wpAnyH_ready (rs := [4, 6]) (by kernel_rfl) (by simp) ?_
    refine AllReadyH.cons rfl (fun K hK => ?_) ?_
    · go_simp
      refine hK.out _ _ (Kp.drew _ _) (fun hHeld => ?_)
      clear hK K
      try simp only [Act.put, List.setIfInBounds_toArray, List.set_cons_zero, List.set_cons_succ]
      refine wpAnyH_ready (rs := [6]) (by kernel_rfl) (by simp) ?_
      refine AllReadyH.cons rfl (fun K hK => ?_) ?_
      · go_simp
        refine hK.out _ _ (k5F.out) (fun hHeld => ?_)
        clear hK K
        try simp only [Act.put, List.setIfInBounds_toArray, List.set_cons_zero, List.set_cons_succ]
        refine wpAnyH_ready (rs := [7]) (by kernel_rfl) (by simp) ?_
        refine AllReadyH.cons rfl (fun K hK => ?_) ?_
        · try rw [hW5]
          refine ostep_app 37 (by rfl) (by rfl) (.tmp 34) (.tmp 36) 39 39 39 (by rfl) (by rfl) (.slice va l.length vc) (.slice (some ⟨w4.heap.size, 0, none⟩) 1 1) (by rfl) (by rfl) hrun ?_
          refine hK.out _ _ (k6F.out) (fun hHeld => ?_)
          clear hK K
          try simp only [Act.put, List.setIfInBounds_toArray, List.set_cons_zero, List.set_cons_succ]
          refine take_ato (i := 8) (d := 38) (v := ?_) rfl rfl (by kernel_rfl) (by kernel_rfl) (by kernel_rfl) (fun _ _ _ h => h) (Or.inl ⟨by rfl, ?_⟩) (by assumption) ?_
          rotate_left
          · intro W hSW
            try dsimp only at hSW
            go_simp
            try with_reducible rfl
          try simp only [Act.put, List.setIfInBounds_toArray, List.set_cons_zero, List.set_cons_succ]
          refine take_ato (i := 9) (d := 39) (v := ?_) rfl rfl (by kernel_rfl) (by kernel_rfl) (by kernel_rfl) (fun _ _ _ h => h) (Or.inl ⟨by rfl, ?_⟩) (by assumption) ?_
          rotate_left
          · intro W hSW
            try dsimp only at hSW
            go_simp
            try with_reducible rfl
          try simp only [Act.put, List.setIfInBounds_toArray, List.set_cons_zero, List.set_cons_succ]
          refine wpAnyH_ready (rs := [10]) (by kernel_rfl) (by simp) ?_
          refine AllReadyH.cons rfl (fun K hK => ?_) ?_
          · go_simp
            refine hK.out _ _ (k6F.out.then (Kp.setCell _ _ _ _ (.inl rfl))) (fun hHeld => ?_)
            clear hK K
            try simp only [Act.put, List.setIfInBounds_toArray, List.set_cons_zero, List.set_cons_succ]
            refine wpAnyH_done (by kernel_rfl) ?_ _
            go_wp2
            go_ret2
            exact ⟨rfl, HN.out⟩
          exact AllReadyH.nil
        exact AllReadyH.nil
      exact AllReadyH.nil
    refine AllReadyH.cons rfl (fun K hK => ?_) ?_
    · go_simp
      refine hK.out _ _ (k5F.out) (fun hHeld => ?_)
      clear hK K
      try simp only [Act.put, List.setIfInBounds_toArray, List.set_cons_zero, List.set_cons_succ]
      refine wpAnyH_ready (rs := [4]) (by kernel_rfl) (by simp) ?_
      refine AllReadyH.cons rfl (fun K hK => ?_) ?_
      · go_simp
        refine hK.out _ _ (k5F.out) (fun hHeld => ?_)
        clear hK K
        try simp only [Act.put, List.setIfInBounds_toArray, List.set_cons_zero, List.set_cons_succ]
        refine wpAnyH_ready (rs := [7]) (by kernel_rfl) (by simp) ?_
        refine AllReadyH.cons rfl (fun K hK => ?_) ?_
        · try rw [hW5]
          refine ostep_app 37 (by rfl) (by rfl) (.tmp 34) (.tmp 36) 39 39 39 (by rfl) (by rfl) (.slice va l.length vc) (.slice (some ⟨w4.heap.size, 0, none⟩) 1 1) (by rfl) (by rfl) hrun ?_
          refine hK.out _ _ (k6F.out) (fun hHeld => ?_)
          clear hK K
          try simp only [Act.put, List.setIfInBounds_toArray, List.set_cons_zero, List.set_cons_succ]
          refine take_ato (i := 8) (d := 38) (v := ?_) rfl rfl (by kernel_rfl) (by kernel_rfl) (by kernel_rfl) (fun _ _ _ h => h) (Or.inl ⟨by rfl, ?_⟩) (by assumption) ?_
          rotate_left
          · intro W hSW
            try dsimp only at hSW
            go_simp
            try with_reducible rfl
          try simp only [Act.put, List.setIfInBounds_toArray, List.set_cons_zero, List.set_cons_succ]
          refine take_ato (i := 9) (d := 39) (v := ?_) rfl rfl (by kernel_rfl) (by kernel_rfl) (by kernel_rfl) (fun _ _ _ h => h) (Or.inl ⟨by rfl, ?_⟩) (by assumption) ?_
          rotate_left
          · intro W hSW
            try dsimp only at hSW
            go_simp
            try with_reducible rfl
          try simp only [Act.put, List.setIfInBounds_toArray, List.set_cons_zero, List.set_cons_succ]
          refine wpAnyH_ready (rs := [10]) (by kernel_rfl) (by simp) ?_
          refine AllReadyH.cons rfl (fun K hK => ?_) ?_
          · go_simp
            refine hK.out _ _ (k6F.out.then (Kp.setCell _ _ _ _ (.inl rfl))) (fun hHeld => ?_)
            clear hK K
            try simp only [Act.put, List.setIfInBounds_toArray, List.set_cons_zero, List.set_cons_succ]
            refine wpAnyH_done (by kernel_rfl) ?_ _
            go_wp2
            go_ret2
            exact ⟨rfl, HN.out⟩
          exact AllReadyH.nil
        exact AllReadyH.nil
      exact AllReadyH.nil
    exact AllReadyH.nil

end Go.Proofs.Ytamgnpmkmlhadaa
