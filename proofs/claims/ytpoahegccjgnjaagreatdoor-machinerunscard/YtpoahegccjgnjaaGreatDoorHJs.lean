/- Contract, over the turned program: machine's entry of a key. Conditions: those that the theorem states. Contracts, over the turned program: machine's deeds that make an entry. Conditions: those that each theorem states. -/
import Derived.Test.YtpoahegccjgnjaaGreatDoorHJo
import Derived.Test.YtpoahegccjgnjaaGreatDoorHJa
import Derived.Test.YtpoahegccjgnjaaGreatDoorHJi
namespace Go.Proofs.YtpoahegccjgnjaaGreatDoor
open Go.RowKit
set_option linter.unusedVariables false

set_option maxRecDepth 100000 in
set_option maxHeartbeats 1000000 in
theorem m_put (B : Bd) (g : Nat) (tv rv pv ov kv : Value) (S : Ms) (x : Wr) (w : World) (hM : Mb B w g tv S rv pv ov kv) (h6 : S.rg.length = 6) (ho : S.pu.length ≤ 100) :
    Calls Tryz.prog 65 #[.pointer (some ⟨g, 0, none⟩), x.val] w fun e w' => DP B w g tv (S.put x) e w' ∧ Kp (fun k => k = g ∨ pv.ownBlock = some k) w w' ∧ w'.cell? ⟨g, 2, none⟩ = some rv := by
  obtain ⟨r, cap, rfl, hBr, hr, hrg⟩ := at_cells hM h6
  obtain ⟨R, HR⟩ : ∃ R, Hid (S.put x = R) := ⟨_, rfl⟩
  rw [HR.out]
  have hgb := World.grownBy_alloc w (.cells #[.int .i64 x.k.k, .int .i64 x.k.n, .string x.k.s, .int .i64 x.v.k, .int .i64 x.v.n, .string x.v.s, .bool x.g] 62) none
  have hb : (w.alloc (.cells #[.int .i64 x.k.k, .int .i64 x.k.n, .string x.k.s, .int .i64 x.v.k, .int .i64 x.v.n, .string x.v.s, .bool x.g] 62)).heap[w.heap.size]? = some (.cells #[.int .i64 x.k.k, .int .i64 x.k.n, .string x.k.s, .int .i64 x.v.k, .int .i64 x.v.n, .string x.v.s, .bool x.g] 62 (0, 0)) := heap_alloc_new w _
  have hM1 := hM.keptN hgb
  have hbc : ∀ j, (w.alloc (.cells #[.int .i64 x.k.k, .int .i64 x.k.n, .string x.k.s, .int .i64 x.v.k, .int .i64 x.v.n, .string x.v.s, .bool x.g] 62)).cell? ⟨w.heap.size, j, none⟩ = (#[.int .i64 x.k.k, .int .i64 x.k.n, .string x.k.s, .int .i64 x.v.k, .int .i64 x.v.n, .string x.v.s, .bool x.g] : Array Value)[j]? := fun j => by rw [cell_of_row _ _ j _ 62 (0, 0) hb]
  have c0 := hbc 0
  have c1 := hbc 1
  have c2 := hbc 2
  have c3 := hbc 3
  have c4 := hbc 4
  have c5 := hbc 5
  have c6 := hbc 6
  have hqg : g < w.heap.size := hM.lt
  have hpq : ∀ k, pv.ownBlock = some k → k < w.heap.size := fun k e => (hM.pu.lt k e).2
  have hcall := m_named B g tv (.slice (some ⟨r, 0, none⟩) 6 cap) pv ov kv S x.k _ hM1
  unfold V.val at hcall
  unfold Wr.val
  go_enter Tryz.func65, Tryz.ntmps65
  go_upto_region 1 with fail
  have HG1 := hide (kp_n (B := B) hgb)
  clear hb hbc
  generalize w.alloc (.cells #[.int .i64 x.k.k, .int .i64 x.k.n, .string x.k.s, .int .i64 x.v.k, .int .i64 x.v.n, .string x.v.s, .bool x.g] 62) = W at *
  generalize hq : w.heap.size = q at *
  cases hn : nam S.pu x.k with
  | none =>
    rw [hn] at hcall
    have e := HR.out
    unfold Ms.put at e
    rw [hn] at e
    dsimp only at e
    have HR : Hid ((if S.pu.length + 1 ≤ 8 then Rs.go ⟨S.pc, S.rg, S.pu ++ [x], S.ou, S.ki, S.sl⟩ else Rs.bad) = R) := e
    clear e hn
    unfold idI at hcall
    dsimp only at hcall
    go_upto_region 5 with (go_at_call 82; refine hcall.mono ?_; rintro e w2 ⟨rfl, hg2⟩)
    have hM2 := hM1.keptN hg2
    have HG2 := hide (HG1.out.then (kp_n (B := B) hg2))
    have d0 := cell_g c0 hg2
    have d1 := cell_g c1 hg2
    have d2 := cell_g c2 hg2
    have d3 := cell_g c3 hg2
    have d4 := cell_g c4 hg2
    have d5 := cell_g c5 hg2
    have d6 := cell_g c6 hg2
    have t2 := hM2.tb.c2
    have nq : ¬ (q = g ∨ pv.ownBlock = some q) := fun e => by
      rcases e with e | e
      · omega
      · have := hpq q e; omega
    clear c0 c1 c2 c3 c4 c5 c6 hcall hM1
    obtain ⟨N, HN⟩ : ∃ N, Hid (S.pu.length + 1 = N) := ⟨_, rfl⟩
    have hga3 : w2.grownBy (World.alloc (World.drew w2) (.cells #[.int .i64 x.k.k, .int .i64 x.k.n, .string x.k.s, .int .i64 x.v.k, .int .i64 x.v.n, .string x.v.s, .bool x.g] 62)) none := grown_up (grown_dr w2) (World.grownBy_alloc _ (.cells #[.int .i64 x.k.k, .int .i64 x.k.n, .string x.k.s, .int .i64 x.v.k, .int .i64 x.v.n, .string x.v.s, .bool x.g] 62) none)
    have hMB := hM2.keptN hga3
    have hheap : (World.alloc (World.drew w2) (.cells #[.int .i64 x.k.k, .int .i64 x.k.n, .string x.k.s, .int .i64 x.v.k, .int .i64 x.v.n, .string x.v.s, .bool x.g] 62)).heap[w2.heap.size]? = some (.cells (Wr.cells (x)).toArray 62 (0, 0)) := heap_alloc_new (World.drew w2) (.cells #[.int .i64 x.k.k, .int .i64 x.k.n, .string x.k.s, .int .i64 x.v.k, .int .i64 x.v.n, .string x.v.s, .bool x.g] 62)
    obtain ⟨pr, pcap, w5, hrun, hO5, hg5, hw5⟩ := app_oneR clW (by omega) 26 62 Tryz.underlying26 (.agg #[.int .i64 0, .int .i64 0, .string ByteArray.empty, .int .i64 0, .int .i64 0, .string ByteArray.empty, .bool false]) 72 infoW (by rfl) (by omega) (World.alloc (World.drew w2) (.cells #[.int .i64 x.k.k, .int .i64 x.k.n, .string x.k.s, .int .i64 x.v.k, .int .i64 x.v.n, .string x.v.s, .bool x.g] 62)) B.1 pv S.pu (x) w2.heap.size hMB.pu hheap (Nat.le_trans hM2.gB.1 (Nat.le_of_lt hMB.lt)) (by omega)
    have hP := hMB.appP hO5 hg5 hw5
    have ht5 := hMB.tb.kept hg5 (fun e => (hMB.ap.p g e.symm).1 rfl)
    have x3 := ht5.c3
    have x2 := ht5.c2
    have xf := ht5.fz 3
    have t3 := hM2.tb.c3
    have a3 := hMB.tb.c3
    have a2 := hMB.tb.c2
    have a3' : (World.alloc w2 (.cells #[.int .i64 x.k.k, .int .i64 x.k.n, .string x.k.s, .int .i64 x.v.k, .int .i64 x.v.n, .string x.v.s, .bool x.g] 62)).cell? ⟨g, 3, none⟩ = some pv := a3
    rw [HN.out] at hrun hO5 hP
    have HK5 := hide ((HG2.out.then (kp_n (B := B) hga3)).then ((kp_bl hMB.puB hg5).then (Kp.setCell w5 g 3 (.slice (some ⟨pr, 0, none⟩) N pcap) (show Bk B g from hM2.gB))))
    have HP := hide hP
    have HFR := hide ((((Kp.ofN hgb (fun k => k = g ∨ pv.ownBlock = some k)).then (Kp.ofN hg2 _)).then (Kp.ofN hga3 _)).then ((Kp.ofGrown hg5 (fun k e _ => .inr e)).then (Kp.setCell w5 g 3 (.slice (some ⟨pr, 0, none⟩) N pcap) (.inl rfl))))
    have HX := hide ht5
    refine wp_region_held_drew (S := fun W0 => Kp (fun k => k = g ∨ pv.ownBlock = some k) w2 W0 ∧ W0.cell? ⟨g, 2, none⟩ = some (.slice (some ⟨r, 0, none⟩) 6 cap)) (by kernel_rfl) (⟨Kp.drew _ _, t2⟩) (fun hHeld => ?_)
    refine take_at (i := 0) (d := 20) (v := ?_) rfl rfl (by kernel_rfl) (by kernel_rfl) (by kernel_rfl) (fun _ _ _ h => h) (Or.inl ⟨by rfl, ?_⟩) (by assumption) ?_
    rotate_left
    · intro W hSW
      try dsimp only at hSW
      have g0 := hSW.1.cell d0 nq
      have g1 := hSW.1.cell d1 nq
      have g2 := hSW.1.cell d2 nq
      have g3 := hSW.1.cell d3 nq
      have g4 := hSW.1.cell d4 nq
      have g5 := hSW.1.cell d5 nq
      have g6 := hSW.1.cell d6 nq
      go_simp
      try with_reducible rfl
    try simp only [Act.put, List.setIfInBounds_toArray, List.set_cons_zero, List.set_cons_succ]
    refine take_at (i := 1) (d := 21) (v := ?_) rfl rfl (by kernel_rfl) (by kernel_rfl) (by kernel_rfl) (fun _ _ _ h => h) (Or.inl ⟨by rfl, ?_⟩) (by assumption) ?_
    rotate_left
    · intro W hSW
      try dsimp only at hSW
      have g0 := hSW.1.cell d0 nq
      have g1 := hSW.1.cell d1 nq
      have g2 := hSW.1.cell d2 nq
      have g3 := hSW.1.cell d3 nq
      have g4 := hSW.1.cell d4 nq
      have g5 := hSW.1.cell d5 nq
      have g6 := hSW.1.cell d6 nq
      go_simp
      try with_reducible rfl
    try simp only [Act.put, List.setIfInBounds_toArray, List.set_cons_zero, List.set_cons_succ]
    refine take_at (i := 2) (d := 22) (v := ?_) rfl rfl (by kernel_rfl) (by kernel_rfl) (by kernel_rfl) (fun _ _ _ h => h) (Or.inl ⟨by rfl, ?_⟩) (by assumption) ?_
    rotate_left
    · intro W hSW
      try dsimp only at hSW
      have g0 := hSW.1.cell d0 nq
      have g1 := hSW.1.cell d1 nq
      have g2 := hSW.1.cell d2 nq
      have g3 := hSW.1.cell d3 nq
      have g4 := hSW.1.cell d4 nq
      have g5 := hSW.1.cell d5 nq
      have g6 := hSW.1.cell d6 nq
      go_simp
      try with_reducible rfl
    try simp only [Act.put, List.setIfInBounds_toArray, List.set_cons_zero, List.set_cons_succ]
    refine take_at (i := 3) (d := 23) (v := ?_) rfl rfl (by kernel_rfl) (by kernel_rfl) (by kernel_rfl) (fun _ _ _ h => h) (Or.inl ⟨by rfl, ?_⟩) (by assumption) ?_
    rotate_left
    · intro W hSW
      try dsimp only at hSW
      have g0 := hSW.1.cell d0 nq
      have g1 := hSW.1.cell d1 nq
      have g2 := hSW.1.cell d2 nq
      have g3 := hSW.1.cell d3 nq
      have g4 := hSW.1.cell d4 nq
      have g5 := hSW.1.cell d5 nq
      have g6 := hSW.1.cell d6 nq
      go_simp
      try with_reducible rfl
    try simp only [Act.put, List.setIfInBounds_toArray, List.set_cons_zero, List.set_cons_succ]
    refine take_at (i := 4) (d := 24) (v := ?_) rfl rfl (by kernel_rfl) (by kernel_rfl) (by kernel_rfl) (fun _ _ _ h => h) (Or.inl ⟨by rfl, ?_⟩) (by assumption) ?_
    rotate_left
    · intro W hSW
      try dsimp only at hSW
      have g0 := hSW.1.cell d0 nq
      have g1 := hSW.1.cell d1 nq
      have g2 := hSW.1.cell d2 nq
      have g3 := hSW.1.cell d3 nq
      have g4 := hSW.1.cell d4 nq
      have g5 := hSW.1.cell d5 nq
      have g6 := hSW.1.cell d6 nq
      go_simp
      try with_reducible rfl
    try simp only [Act.put, List.setIfInBounds_toArray, List.set_cons_zero, List.set_cons_succ]
    refine take_at (i := 6) (d := 26) (v := ?_) rfl rfl (by kernel_rfl) (by kernel_rfl) (by kernel_rfl) (fun _ _ _ h => h) (Or.inl ⟨by rfl, ?_⟩) (by assumption) ?_
    rotate_left
    · intro W hSW
      try dsimp only at hSW
      have g0 := hSW.1.cell d0 nq
      have g1 := hSW.1.cell d1 nq
      have g2 := hSW.1.cell d2 nq
      have g3 := hSW.1.cell d3 nq
      have g4 := hSW.1.cell d4 nq
      have g5 := hSW.1.cell d5 nq
      have g6 := hSW.1.cell d6 nq
      go_simp
      try with_reducible rfl
    try simp only [Act.put, List.setIfInBounds_toArray, List.set_cons_zero, List.set_cons_succ]
    refine wpAnyH_ready (rs := [5, 7]) (by kernel_rfl) (by simp) ?_
    refine AllReadyH.cons rfl (fun K hK => ?_) ?_
    · go_simp
      refine hK.out _ _ (⟨Kp.drew _ _, t2⟩) (fun hHeld => ?_)
      clear hK K
      try simp only [Act.put, List.setIfInBounds_toArray, List.set_cons_zero, List.set_cons_succ]
      refine wpAnyH_ready (rs := [7]) (by kernel_rfl) (by simp) ?_
      refine AllReadyH.cons rfl (fun K hK => ?_) ?_
      · go_simp
        refine hK.out _ _ (⟨(Kp.drew _ _).then (Kp.alloc _ _ _), a2⟩) (fun hHeld => ?_)
        clear hK K
        try simp only [Act.put, List.setIfInBounds_toArray, List.set_cons_zero, List.set_cons_succ]
        refine wpAnyH_ready (rs := [8]) (by kernel_rfl) (by simp) ?_
        refine AllReadyH.cons rfl (fun K hK => ?_) ?_
        · refine hstep_app 28 (by rfl) (by rfl) (.tmp 25) (.tmp 27) 26 26 26 (by rfl) (by rfl) pv (.slice (some ⟨w2.heap.size, 0, none⟩) 1 1) (by rfl) (by rfl) hrun ?_
          refine hK.out _ _ (⟨((Kp.drew _ _).then (Kp.alloc _ _ _)).then (Kp.ofGrown hg5 (fun k e _ => .inr e)), x2⟩) (fun hHeld => ?_)
          clear hK K
          try simp only [Act.put, List.setIfInBounds_toArray, List.set_cons_zero, List.set_cons_succ]
          refine take_at (i := 9) (d := 29) (v := ?_) rfl rfl (by kernel_rfl) (by kernel_rfl) (by kernel_rfl) (fun _ _ _ h => h) (Or.inl ⟨by rfl, ?_⟩) (by assumption) ?_
          rotate_left
          · intro W hSW
            try dsimp only at hSW
            go_simp
            try with_reducible rfl
          try simp only [Act.put, List.setIfInBounds_toArray, List.set_cons_zero, List.set_cons_succ]
          refine take_at (i := 10) (d := 30) (v := ?_) rfl rfl (by kernel_rfl) (by kernel_rfl) (by kernel_rfl) (fun _ _ _ h => h) (Or.inl ⟨by rfl, ?_⟩) (by assumption) ?_
          rotate_left
          · intro W hSW
            try dsimp only at hSW
            go_simp
            try with_reducible rfl
          try simp only [Act.put, List.setIfInBounds_toArray, List.set_cons_zero, List.set_cons_succ]
          refine take_at (i := 11) (d := 31) (v := ?_) rfl rfl (by kernel_rfl) (by kernel_rfl) (by kernel_rfl) (fun _ _ _ h => h) (Or.inl ⟨by rfl, ?_⟩) (by assumption) ?_
          rotate_left
          · intro W hSW
            try dsimp only at hSW
            go_simp
            try with_reducible rfl
          try simp only [Act.put, List.setIfInBounds_toArray, List.set_cons_zero, List.set_cons_succ]
          refine wpAnyH_ready (rs := [12]) (by kernel_rfl) (by simp) ?_
          refine AllReadyH.cons rfl (fun K hK => ?_) ?_
          · go_simp
            refine hK.out _ _ (⟨(((Kp.drew _ _).then (Kp.alloc _ _ _)).then (Kp.ofGrown hg5 (fun k e _ => .inr e))).then (Kp.setCell w5 g 3 _ (.inl rfl)), HP.out.tb.c2⟩) (fun hHeld => ?_)
            clear hK K
            try simp only [Act.put, List.setIfInBounds_toArray, List.set_cons_zero, List.set_cons_succ]
            refine wpAnyH_done (by kernel_rfl) ?_ _
            have c5 := HP.out.tb.c3
            generalize w5.setCell ⟨g, 3, none⟩ (.slice (some ⟨pr, 0, none⟩) N pcap) = W6 at *
            by_cases hs : S.pu.length + 1 ≤ 8
            · have hz : (N : Int) ≤ 8 := by have := HN.out; omega
              have e := HR.out
              rw [if_pos hs] at e
              subst e
              go_wp2
              go_ret
              exact ⟨DP.go HP.out HK5.out, HFR.out, HP.out.tb.c2⟩
            · have hz : ¬ (N : Int) ≤ 8 := by have := HN.out; omega
              have e := HR.out
              rw [if_neg hs] at e
              subst e
              go_wp2
              go_ret
              exact ⟨DP.bad HK5.out, HFR.out, HP.out.tb.c2⟩
          exact AllReadyH.nil
        exact AllReadyH.nil
      exact AllReadyH.nil
    refine AllReadyH.cons rfl (fun K hK => ?_) ?_
    · go_simp
      refine hK.out _ _ (⟨(Kp.drew _ _).then (Kp.alloc _ _ _), a2⟩) (fun hHeld => ?_)
      clear hK K
      try simp only [Act.put, List.setIfInBounds_toArray, List.set_cons_zero, List.set_cons_succ]
      refine wpAnyH_ready (rs := [5]) (by kernel_rfl) (by simp) ?_
      refine AllReadyH.cons rfl (fun K hK => ?_) ?_
      · go_simp
        refine hK.out _ _ (⟨(Kp.drew _ _).then (Kp.alloc _ _ _), a2⟩) (fun hHeld => ?_)
        clear hK K
        try simp only [Act.put, List.setIfInBounds_toArray, List.set_cons_zero, List.set_cons_succ]
        refine wpAnyH_ready (rs := [8]) (by kernel_rfl) (by simp) ?_
        refine AllReadyH.cons rfl (fun K hK => ?_) ?_
        · refine hstep_app 28 (by rfl) (by rfl) (.tmp 25) (.tmp 27) 26 26 26 (by rfl) (by rfl) pv (.slice (some ⟨w2.heap.size, 0, none⟩) 1 1) (by rfl) (by rfl) hrun ?_
          refine hK.out _ _ (⟨((Kp.drew _ _).then (Kp.alloc _ _ _)).then (Kp.ofGrown hg5 (fun k e _ => .inr e)), x2⟩) (fun hHeld => ?_)
          clear hK K
          try simp only [Act.put, List.setIfInBounds_toArray, List.set_cons_zero, List.set_cons_succ]
          refine take_at (i := 9) (d := 29) (v := ?_) rfl rfl (by kernel_rfl) (by kernel_rfl) (by kernel_rfl) (fun _ _ _ h => h) (Or.inl ⟨by rfl, ?_⟩) (by assumption) ?_
          rotate_left
          · intro W hSW
            try dsimp only at hSW
            go_simp
            try with_reducible rfl
          try simp only [Act.put, List.setIfInBounds_toArray, List.set_cons_zero, List.set_cons_succ]
          refine take_at (i := 10) (d := 30) (v := ?_) rfl rfl (by kernel_rfl) (by kernel_rfl) (by kernel_rfl) (fun _ _ _ h => h) (Or.inl ⟨by rfl, ?_⟩) (by assumption) ?_
          rotate_left
          · intro W hSW
            try dsimp only at hSW
            go_simp
            try with_reducible rfl
          try simp only [Act.put, List.setIfInBounds_toArray, List.set_cons_zero, List.set_cons_succ]
          refine take_at (i := 11) (d := 31) (v := ?_) rfl rfl (by kernel_rfl) (by kernel_rfl) (by kernel_rfl) (fun _ _ _ h => h) (Or.inl ⟨by rfl, ?_⟩) (by assumption) ?_
          rotate_left
          · intro W hSW
            try dsimp only at hSW
            go_simp
            try with_reducible rfl
          try simp only [Act.put, List.setIfInBounds_toArray, List.set_cons_zero, List.set_cons_succ]
          refine wpAnyH_ready (rs := [12]) (by kernel_rfl) (by simp) ?_
          refine AllReadyH.cons rfl (fun K hK => ?_) ?_
          · go_simp
            refine hK.out _ _ (⟨(((Kp.drew _ _).then (Kp.alloc _ _ _)).then (Kp.ofGrown hg5 (fun k e _ => .inr e))).then (Kp.setCell w5 g 3 _ (.inl rfl)), HP.out.tb.c2⟩) (fun hHeld => ?_)
            clear hK K
            try simp only [Act.put, List.setIfInBounds_toArray, List.set_cons_zero, List.set_cons_succ]
            refine wpAnyH_done (by kernel_rfl) ?_ _
            have c5 := HP.out.tb.c3
            generalize w5.setCell ⟨g, 3, none⟩ (.slice (some ⟨pr, 0, none⟩) N pcap) = W6 at *
            by_cases hs : S.pu.length + 1 ≤ 8
            · have hz : (N : Int) ≤ 8 := by have := HN.out; omega
              have e := HR.out
              rw [if_pos hs] at e
              subst e
              go_wp2
              go_ret
              exact ⟨DP.go HP.out HK5.out, HFR.out, HP.out.tb.c2⟩
            · have hz : ¬ (N : Int) ≤ 8 := by have := HN.out; omega
              have e := HR.out
              rw [if_neg hs] at e
              subst e
              go_wp2
              go_ret
              exact ⟨DP.bad HK5.out, HFR.out, HP.out.tb.c2⟩
          exact AllReadyH.nil
        exact AllReadyH.nil
      exact AllReadyH.nil
    exact AllReadyH.nil
  | some n =>
    obtain ⟨hnl, _⟩ := nam_some hn
    rw [hn] at hcall
    have e := HR.out
    unfold Ms.put at e
    rw [hn] at e
    dsimp only at e
    subst e
    clear hn
    unfold idI at hcall
    dsimp only at hcall
    have hn0 : (0 : Int) ≤ (n : Int) := by omega
    go_upto_region 3 with (go_at_call 82; refine hcall.mono ?_; rintro e w2 ⟨rfl, hg2⟩)
    have hM2 := hM1.keptN hg2
    have HG2 := hide (HG1.out.then (kp_n (B := B) hg2))
    have d0 := cell_g c0 hg2
    have d1 := cell_g c1 hg2
    have d2 := cell_g c2 hg2
    have d3 := cell_g c3 hg2
    have d4 := cell_g c4 hg2
    have d5 := cell_g c5 hg2
    have d6 := cell_g c6 hg2
    clear c0 c1 c2 c3 c4 c5 c6 hcall hM1
    rcases hM2.pu.shape with ⟨_, h0⟩ | ⟨pr, pcap, rfl, hBp, hpl⟩
    · rw [h0] at hnl; cases hnl
    · have t3 := hM2.tb.c3
      have hP := hM2.ent n hnl x
      have hcs := fun j u hu => OwR.cells (r := pr) hM2.pu clW rfl n hnl j u hu
      have e0 : w2.cell? ⟨pr, n * 7, none⟩ = some (.int .i64 (S.pu[n]).k.k) := hcs 0 _ rfl
      have e1 := hcs 1 _ rfl
      have e2 := hcs 2 _ rfl
      have e3 := hcs 3 _ rfl
      have e4 := hcs 4 _ rfl
      have e5 := hcs 5 _ rfl
      have e6 := hcs 6 _ rfl
      have ef : ∀ j, w2.frozen? ⟨pr, j, none⟩ = false := fun j => hM2.pu.fz rfl j
      have HK5 := hide (HG2.out.then (kp_of hP.2 (hM2.puB pr rfl)))
      have HP := hide hP.1
      have HFR := hide (((Kp.ofN hgb (fun k => k = g ∨ (Value.slice (some ⟨pr, 0, none⟩) S.pu.length pcap).ownBlock = some k)).then (Kp.ofN hg2 _)).then (Kp.ofGrown hP.2 (fun k e _ => .inr e)))
      have hnl' : (n : Int) < (S.pu.length : Int) := by omega
      obtain ⟨N, HN⟩ : ∃ N, Hid (S.pu.length = N) := ⟨_, rfl⟩
      rw [HN.out] at t3 hnl'
      clear hP hcs
      generalize S.pu[n] = y at *
      go_region
      go_wp2
      go_ret
      exact ⟨⟨true, rfl, ⟨rfl, _, _, _, _, HP.out.keptN (grown_dr _)⟩, HK5.out.then (Kp.drew _ _)⟩, HFR.out.then (Kp.drew _ _), (HP.out.keptN (grown_dr _)).tb.c2⟩

end Go.Proofs.YtpoahegccjgnjaaGreatDoor

namespace Go.Proofs.YtpoahegccjgnjaaGreatDoor
open Go.RowKit
set_option linter.unusedVariables false

set_option maxRecDepth 100000 in
set_option maxHeartbeats 1000000 in
theorem m_store (B : Bd) (g : Nat) (tv rv pv ov kv : Value) (S : Ms) (x : V) (op c : Int) (a b : Nat) (la : a < 6) (lb : b < 6) (w : World) (hM : Mb B w g tv S rv pv ov kv) (h6 : S.rg.length = 6) (ho : S.pu.length ≤ 100) :
    Calls Tryz.prog 34 #[.pointer (some ⟨g, 0, none⟩), (⟨op, (a : Int), (b : Int), c, x⟩ : In).val] w fun e w' => DP B w g tv (S.put ⟨S.at (a : Int), S.at (b : Int), false⟩) e w' := by
  obtain ⟨r, cap, rfl, hBr, hr, hrg⟩ := at_cells hM h6
  have hgb := World.grownBy_alloc w (.cells #[.int .i64 op, .int .i64 (a : Int), .int .i64 (b : Int), .int .i64 c, .int .i64 x.k, .int .i64 x.n, .string x.s] 44) none
  have hb : Ib (w.alloc (.cells #[.int .i64 op, .int .i64 (a : Int), .int .i64 (b : Int), .int .i64 c, .int .i64 x.k, .int .i64 x.n, .string x.s] 44)) w.heap.size ⟨op, (a : Int), (b : Int), c, x⟩ := Ib.new w ⟨op, (a : Int), (b : Int), c, x⟩
  have hM1 := hM.keptN hgb
  have la' : (a : Int) < 6 := by omega
  have lb' : (b : Int) < 6 := by omega
  unfold In.val
  dsimp only
  go_enter Tryz.func34, Tryz.ntmps34
  go_upto_region 1 with fail
  have HG1 := hide (kp_n (B := B) hgb)
  generalize w.alloc (.cells #[.int .i64 op, .int .i64 (a : Int), .int .i64 (b : Int), .int .i64 c, .int .i64 x.k, .int .i64 x.n, .string x.s] 44) = W at *
  have hqg : g < w.heap.size := hM.lt
  generalize hq : w.heap.size = q at *
  obtain ⟨b0, b1, b2, b3, b4, b5, b6⟩ := hb.cs
  dsimp only at b0 b1 b2 b3 b4 b5 b6
  have t2 := hM1.tb.c2
  obtain ⟨ar0, ar1, ar2, rf⟩ := rg_cells hM1 h6 a la
  obtain ⟨br0, br1, br2, rf⟩ := rg_cells hM1 h6 b lb
  have nq : ¬ (q = g ∨ pv.ownBlock = some q) := fun e => by
    rcases e with e | e
    · omega
    · have := (hM.pu.lt q e).2; omega
  have nr : ¬ (r = g ∨ pv.ownBlock = some r) := fun e => by
    rcases e with e | e
    · exact hrg e
    · exact (hM1.ap.r r rfl).2.1 e
  have Hput : Hid (∀ W0, W.grownBy W0 none → Calls Tryz.prog 65 #[.pointer (some ⟨g, 0, none⟩), .agg #[.int .i64 (S.at (a : Int)).k, .int .i64 (S.at (a : Int)).n, .string (S.at (a : Int)).s, .int .i64 (S.at (b : Int)).k, .int .i64 (S.at (b : Int)).n, .string (S.at (b : Int)).s, .bool false]] W0 fun e w' => DP B W0 g tv (S.put ⟨S.at (a : Int), S.at (b : Int), false⟩) e w' ∧ Kp (fun k => k = g ∨ pv.ownBlock = some k) W0 w' ∧ w'.cell? ⟨g, 2, none⟩ = some (.slice (some ⟨r, 0, none⟩) 6 cap)) := fun W0 hg => m_put B g tv _ pv ov kv S ⟨S.at (a : Int), S.at (b : Int), false⟩ W0 (hM1.keptN hg) h6 ho
  refine wp_region_held_drew (S := fun W0 => Kp (fun k => k = g ∨ pv.ownBlock = some k) W W0 ∧ W0.cell? ⟨g, 2, none⟩ = some (.slice (some ⟨r, 0, none⟩) 6 cap)) (by kernel_rfl) (⟨Kp.drew _ _, t2⟩) (fun hHeld => ?_)
  refine take_at (i := 0) (d := 5) (v := ?_) rfl rfl (by kernel_rfl) (by kernel_rfl) (by kernel_rfl) (fun _ _ _ h => h) (Or.inl ⟨by rfl, ?_⟩) (by assumption) ?_
  rotate_left
  · intro W hSW
    try dsimp only at hSW
    have ng := hSW.2
    have g1 := hSW.1.cell b1 nq
    have g2 := hSW.1.cell b2 nq
    have g3 := hSW.1.cell b3 nq
    have ha0 := hSW.1.cell ar0 nr
    have ha1 := hSW.1.cell ar1 nr
    have ha2 := hSW.1.cell ar2 nr
    have hb0 := hSW.1.cell br0 nr
    have hb1 := hSW.1.cell br1 nr
    have hb2 := hSW.1.cell br2 nr
    go_simp
    try with_reducible rfl
  try simp only [Act.put, List.setIfInBounds_toArray, List.set_cons_zero, List.set_cons_succ]
  refine take_at (i := 1) (d := 6) (v := ?_) rfl rfl (by kernel_rfl) (by kernel_rfl) (by kernel_rfl) (fun _ _ _ h => h) (Or.inl ⟨by rfl, ?_⟩) (by assumption) ?_
  rotate_left
  · intro W hSW
    try dsimp only at hSW
    have ng := hSW.2
    have g1 := hSW.1.cell b1 nq
    have g2 := hSW.1.cell b2 nq
    have g3 := hSW.1.cell b3 nq
    have ha0 := hSW.1.cell ar0 nr
    have ha1 := hSW.1.cell ar1 nr
    have ha2 := hSW.1.cell ar2 nr
    have hb0 := hSW.1.cell br0 nr
    have hb1 := hSW.1.cell br1 nr
    have hb2 := hSW.1.cell br2 nr
    go_simp
    try with_reducible rfl
  try simp only [Act.put, List.setIfInBounds_toArray, List.set_cons_zero, List.set_cons_succ]
  refine take_at (i := 2) (d := 7) (v := ?_) rfl rfl (by kernel_rfl) (by kernel_rfl) (by kernel_rfl) (fun _ _ _ h => h) (Or.inl ⟨by rfl, ?_⟩) (by assumption) ?_
  rotate_left
  · intro W hSW
    try dsimp only at hSW
    have ng := hSW.2
    have g1 := hSW.1.cell b1 nq
    have g2 := hSW.1.cell b2 nq
    have g3 := hSW.1.cell b3 nq
    have ha0 := hSW.1.cell ar0 nr
    have ha1 := hSW.1.cell ar1 nr
    have ha2 := hSW.1.cell ar2 nr
    have hb0 := hSW.1.cell br0 nr
    have hb1 := hSW.1.cell br1 nr
    have hb2 := hSW.1.cell br2 nr
    go_simp
    try with_reducible rfl
  try simp only [Act.put, List.setIfInBounds_toArray, List.set_cons_zero, List.set_cons_succ]
  refine take_at (i := 3) (d := 8) (v := ?_) rfl rfl (by kernel_rfl) (by kernel_rfl) (by kernel_rfl) (fun _ _ _ h => h) (Or.inl ⟨by rfl, ?_⟩) (by assumption) ?_
  rotate_left
  · intro W hSW
    try dsimp only at hSW
    have ng := hSW.2
    have g1 := hSW.1.cell b1 nq
    have g2 := hSW.1.cell b2 nq
    have g3 := hSW.1.cell b3 nq
    have ha0 := hSW.1.cell ar0 nr
    have ha1 := hSW.1.cell ar1 nr
    have ha2 := hSW.1.cell ar2 nr
    have hb0 := hSW.1.cell br0 nr
    have hb1 := hSW.1.cell br1 nr
    have hb2 := hSW.1.cell br2 nr
    go_simp
    try with_reducible rfl
  try simp only [Act.put, List.setIfInBounds_toArray, List.set_cons_zero, List.set_cons_succ]
  refine take_at (i := 4) (d := 9) (v := ?_) rfl rfl (by kernel_rfl) (by kernel_rfl) (by kernel_rfl) (fun _ _ _ h => h) (Or.inl ⟨by rfl, ?_⟩) (by assumption) ?_
  rotate_left
  · intro W hSW
    try dsimp only at hSW
    have ng := hSW.2
    have g1 := hSW.1.cell b1 nq
    have g2 := hSW.1.cell b2 nq
    have g3 := hSW.1.cell b3 nq
    have ha0 := hSW.1.cell ar0 nr
    have ha1 := hSW.1.cell ar1 nr
    have ha2 := hSW.1.cell ar2 nr
    have hb0 := hSW.1.cell br0 nr
    have hb1 := hSW.1.cell br1 nr
    have hb2 := hSW.1.cell br2 nr
    go_simp
    try with_reducible rfl
  try simp only [Act.put, List.setIfInBounds_toArray, List.set_cons_zero, List.set_cons_succ]
  refine take_at (i := 5) (d := 10) (v := ?_) rfl rfl (by kernel_rfl) (by kernel_rfl) (by kernel_rfl) (fun _ _ _ h => h) (Or.inl ⟨by rfl, ?_⟩) (by assumption) ?_
  rotate_left
  · intro W hSW
    try dsimp only at hSW
    have ng := hSW.2
    have g1 := hSW.1.cell b1 nq
    have g2 := hSW.1.cell b2 nq
    have g3 := hSW.1.cell b3 nq
    have ha0 := hSW.1.cell ar0 nr
    have ha1 := hSW.1.cell ar1 nr
    have ha2 := hSW.1.cell ar2 nr
    have hb0 := hSW.1.cell br0 nr
    have hb1 := hSW.1.cell br1 nr
    have hb2 := hSW.1.cell br2 nr
    go_simp
    try with_reducible rfl
  try simp only [Act.put, List.setIfInBounds_toArray, List.set_cons_zero, List.set_cons_succ]
  refine take_at (i := 6) (d := 11) (v := ?_) rfl rfl (by kernel_rfl) (by kernel_rfl) (by kernel_rfl) (fun _ _ _ h => h) (Or.inl ⟨by rfl, ?_⟩) (by assumption) ?_
  rotate_left
  · intro W hSW
    try dsimp only at hSW
    have ng := hSW.2
    have g1 := hSW.1.cell b1 nq
    have g2 := hSW.1.cell b2 nq
    have g3 := hSW.1.cell b3 nq
    have ha0 := hSW.1.cell ar0 nr
    have ha1 := hSW.1.cell ar1 nr
    have ha2 := hSW.1.cell ar2 nr
    have hb0 := hSW.1.cell br0 nr
    have hb1 := hSW.1.cell br1 nr
    have hb2 := hSW.1.cell br2 nr
    go_simp
    try with_reducible rfl
  try simp only [Act.put, List.setIfInBounds_toArray, List.set_cons_zero, List.set_cons_succ]
  refine take_at (i := 7) (d := 12) (v := ?_) rfl rfl (by kernel_rfl) (by kernel_rfl) (by kernel_rfl) (fun _ _ _ h => h) (Or.inl ⟨by rfl, ?_⟩) (by assumption) ?_
  rotate_left
  · intro W hSW
    try dsimp only at hSW
    have ng := hSW.2
    have g1 := hSW.1.cell b1 nq
    have g2 := hSW.1.cell b2 nq
    have g3 := hSW.1.cell b3 nq
    have ha0 := hSW.1.cell ar0 nr
    have ha1 := hSW.1.cell ar1 nr
    have ha2 := hSW.1.cell ar2 nr
    have hb0 := hSW.1.cell br0 nr
    have hb1 := hSW.1.cell br1 nr
    have hb2 := hSW.1.cell br2 nr
    go_simp
    try with_reducible rfl
  try simp only [Act.put, List.setIfInBounds_toArray, List.set_cons_zero, List.set_cons_succ]
  refine take_at (i := 8) (d := 13) (v := ?_) rfl rfl (by kernel_rfl) (by kernel_rfl) (by kernel_rfl) (fun _ _ _ h => h) (Or.inl ⟨by rfl, ?_⟩) (by assumption) ?_
  rotate_left
  · intro W hSW
    try dsimp only at hSW
    have ng := hSW.2
    have g1 := hSW.1.cell b1 nq
    have g2 := hSW.1.cell b2 nq
    have g3 := hSW.1.cell b3 nq
    have ha0 := hSW.1.cell ar0 nr
    have ha1 := hSW.1.cell ar1 nr
    have ha2 := hSW.1.cell ar2 nr
    have hb0 := hSW.1.cell br0 nr
    have hb1 := hSW.1.cell br1 nr
    have hb2 := hSW.1.cell br2 nr
    go_simp
    try with_reducible rfl
  try simp only [Act.put, List.setIfInBounds_toArray, List.set_cons_zero, List.set_cons_succ]
  refine take_at (i := 9) (d := 14) (v := ?_) rfl rfl (by kernel_rfl) (by kernel_rfl) (by kernel_rfl) (fun _ _ _ h => h) (Or.inl ⟨by rfl, ?_⟩) (by assumption) ?_
  rotate_left
  · intro W hSW
    try dsimp only at hSW
    have ng := hSW.2
    have g1 := hSW.1.cell b1 nq
    have g2 := hSW.1.cell b2 nq
    have g3 := hSW.1.cell b3 nq
    have ha0 := hSW.1.cell ar0 nr
    have ha1 := hSW.1.cell ar1 nr
    have ha2 := hSW.1.cell ar2 nr
    have hb0 := hSW.1.cell br0 nr
    have hb1 := hSW.1.cell br1 nr
    have hb2 := hSW.1.cell br2 nr
    go_simp
    try with_reducible rfl
  try simp only [Act.put, List.setIfInBounds_toArray, List.set_cons_zero, List.set_cons_succ]
  refine take_at (i := 10) (d := 15) (v := ?_) rfl rfl (by kernel_rfl) (by kernel_rfl) (by kernel_rfl) (fun _ _ _ h => h) (Or.inl ⟨by rfl, ?_⟩) (by assumption) ?_
  rotate_left
  · intro W hSW
    try dsimp only at hSW
    have ng := hSW.2
    have g1 := hSW.1.cell b1 nq
    have g2 := hSW.1.cell b2 nq
    have g3 := hSW.1.cell b3 nq
    have ha0 := hSW.1.cell ar0 nr
    have ha1 := hSW.1.cell ar1 nr
    have ha2 := hSW.1.cell ar2 nr
    have hb0 := hSW.1.cell br0 nr
    have hb1 := hSW.1.cell br1 nr
    have hb2 := hSW.1.cell br2 nr
    go_simp
    try with_reducible rfl
  try simp only [Act.put, List.setIfInBounds_toArray, List.set_cons_zero, List.set_cons_succ]
  refine take_at (i := 11) (d := 16) (v := ?_) rfl rfl (by kernel_rfl) (by kernel_rfl) (by kernel_rfl) (fun _ _ _ h => h) (Or.inl ⟨by rfl, ?_⟩) (by assumption) ?_
  rotate_left
  · intro W hSW
    try dsimp only at hSW
    have ng := hSW.2
    have g1 := hSW.1.cell b1 nq
    have g2 := hSW.1.cell b2 nq
    have g3 := hSW.1.cell b3 nq
    have ha0 := hSW.1.cell ar0 nr
    have ha1 := hSW.1.cell ar1 nr
    have ha2 := hSW.1.cell ar2 nr
    have hb0 := hSW.1.cell br0 nr
    have hb1 := hSW.1.cell br1 nr
    have hb2 := hSW.1.cell br2 nr
    go_simp
    try with_reducible rfl
  try simp only [Act.put, List.setIfInBounds_toArray, List.set_cons_zero, List.set_cons_succ]
  refine take_at (i := 12) (d := 17) (v := ?_) rfl rfl (by kernel_rfl) (by kernel_rfl) (by kernel_rfl) (fun _ _ _ h => h) (Or.inl ⟨by rfl, ?_⟩) (by assumption) ?_
  rotate_left
  · intro W hSW
    try dsimp only at hSW
    have ng := hSW.2
    have g1 := hSW.1.cell b1 nq
    have g2 := hSW.1.cell b2 nq
    have g3 := hSW.1.cell b3 nq
    have ha0 := hSW.1.cell ar0 nr
    have ha1 := hSW.1.cell ar1 nr
    have ha2 := hSW.1.cell ar2 nr
    have hb0 := hSW.1.cell br0 nr
    have hb1 := hSW.1.cell br1 nr
    have hb2 := hSW.1.cell br2 nr
    go_simp
    try with_reducible rfl
  try simp only [Act.put, List.setIfInBounds_toArray, List.set_cons_zero, List.set_cons_succ]
  refine take_at (i := 13) (d := 18) (v := ?_) rfl rfl (by kernel_rfl) (by kernel_rfl) (by kernel_rfl) (fun _ _ _ h => h) (Or.inl ⟨by rfl, ?_⟩) (by assumption) ?_
  rotate_left
  · intro W hSW
    try dsimp only at hSW
    have ng := hSW.2
    have g1 := hSW.1.cell b1 nq
    have g2 := hSW.1.cell b2 nq
    have g3 := hSW.1.cell b3 nq
    have ha0 := hSW.1.cell ar0 nr
    have ha1 := hSW.1.cell ar1 nr
    have ha2 := hSW.1.cell ar2 nr
    have hb0 := hSW.1.cell br0 nr
    have hb1 := hSW.1.cell br1 nr
    have hb2 := hSW.1.cell br2 nr
    go_simp
    try with_reducible rfl
  try simp only [Act.put, List.setIfInBounds_toArray, List.set_cons_zero, List.set_cons_succ]
  refine take_at (i := 14) (d := 19) (v := ?_) rfl rfl (by kernel_rfl) (by kernel_rfl) (by kernel_rfl) (fun _ _ _ h => h) (Or.inl ⟨by rfl, ?_⟩) (by assumption) ?_
  rotate_left
  · intro W hSW
    try dsimp only at hSW
    have ng := hSW.2
    have g1 := hSW.1.cell b1 nq
    have g2 := hSW.1.cell b2 nq
    have g3 := hSW.1.cell b3 nq
    have ha0 := hSW.1.cell ar0 nr
    have ha1 := hSW.1.cell ar1 nr
    have ha2 := hSW.1.cell ar2 nr
    have hb0 := hSW.1.cell br0 nr
    have hb1 := hSW.1.cell br1 nr
    have hb2 := hSW.1.cell br2 nr
    go_simp
    try with_reducible rfl
  try simp only [Act.put, List.setIfInBounds_toArray, List.set_cons_zero, List.set_cons_succ]
  refine take_at (i := 15) (d := 20) (v := ?_) rfl rfl (by kernel_rfl) (by kernel_rfl) (by kernel_rfl) (fun _ _ _ h => h) (Or.inl ⟨by rfl, ?_⟩) (by assumption) ?_
  rotate_left
  · intro W hSW
    try dsimp only at hSW
    have ng := hSW.2
    have g1 := hSW.1.cell b1 nq
    have g2 := hSW.1.cell b2 nq
    have g3 := hSW.1.cell b3 nq
    have ha0 := hSW.1.cell ar0 nr
    have ha1 := hSW.1.cell ar1 nr
    have ha2 := hSW.1.cell ar2 nr
    have hb0 := hSW.1.cell br0 nr
    have hb1 := hSW.1.cell br1 nr
    have hb2 := hSW.1.cell br2 nr
    go_simp
    try with_reducible rfl
  try simp only [Act.put, List.setIfInBounds_toArray, List.set_cons_zero, List.set_cons_succ]
  refine take_at (i := 16) (d := 21) (v := ?_) rfl rfl (by kernel_rfl) (by kernel_rfl) (by kernel_rfl) (fun _ _ _ h => h) (Or.inl ⟨by rfl, ?_⟩) (by assumption) ?_
  rotate_left
  · intro W hSW
    try dsimp only at hSW
    have ng := hSW.2
    have g1 := hSW.1.cell b1 nq
    have g2 := hSW.1.cell b2 nq
    have g3 := hSW.1.cell b3 nq
    have ha0 := hSW.1.cell ar0 nr
    have ha1 := hSW.1.cell ar1 nr
    have ha2 := hSW.1.cell ar2 nr
    have hb0 := hSW.1.cell br0 nr
    have hb1 := hSW.1.cell br1 nr
    have hb2 := hSW.1.cell br2 nr
    go_simp
    try with_reducible rfl
  try simp only [Act.put, List.setIfInBounds_toArray, List.set_cons_zero, List.set_cons_succ]
  refine take_at (i := 17) (d := 22) (v := ?_) rfl rfl (by kernel_rfl) (by kernel_rfl) (by kernel_rfl) (fun _ _ _ h => h) (Or.inl ⟨by rfl, ?_⟩) (by assumption) ?_
  rotate_left
  · intro W hSW
    try dsimp only at hSW
    have ng := hSW.2
    have g1 := hSW.1.cell b1 nq
    have g2 := hSW.1.cell b2 nq
    have g3 := hSW.1.cell b3 nq
    have ha0 := hSW.1.cell ar0 nr
    have ha1 := hSW.1.cell ar1 nr
    have ha2 := hSW.1.cell ar2 nr
    have hb0 := hSW.1.cell br0 nr
    have hb1 := hSW.1.cell br1 nr
    have hb2 := hSW.1.cell br2 nr
    go_simp
    try with_reducible rfl
  try simp only [Act.put, List.setIfInBounds_toArray, List.set_cons_zero, List.set_cons_succ]
  refine wpAnyH_ready (rs := [18]) (by kernel_rfl) (by simp) ?_
  refine AllReadyH.cons rfl (fun K hK => ?_) ?_
  · go_simp
    go_wp2_with (go_at_call 65; refine (Hput.out _ (grown_dr W)).mono ?_; rintro e w4 ⟨hD, hO, hc⟩; obtain ⟨bb, rfl, hR, hk⟩ := hD)
    refine hK.out _ _ (⟨(Kp.drew _ _).then hO, hc⟩) (fun hHeld => ?_)
    clear hK K
    try simp only [Act.put, List.setIfInBounds_toArray, List.set_cons_zero, List.set_cons_succ]
    refine take_at (i := 19) (d := 4) (v := ?_) rfl rfl (by kernel_rfl) (by kernel_rfl) (by kernel_rfl) (fun _ _ _ h => h) (Or.inl ⟨by rfl, ?_⟩) (by assumption) ?_
    rotate_left
    · intro W hSW
      try dsimp only at hSW
      go_simp
      try with_reducible rfl
    try simp only [Act.put, List.setIfInBounds_toArray, List.set_cons_zero, List.set_cons_succ]
    refine wpAnyH_done (by kernel_rfl) ?_ _
    go_wp2
    go_ret
    exact ⟨bb, rfl, hR, (HG1.out.then (Kp.drew _ _)).then hk⟩
  exact AllReadyH.nil

set_option maxRecDepth 100000 in
set_option maxHeartbeats 1000000 in
theorem m_drop (B : Bd) (g : Nat) (tv rv pv ov kv : Value) (S : Ms) (x : V) (op b c : Int) (a : Nat) (la : a < 6) (w : World) (hM : Mb B w g tv S rv pv ov kv) (h6 : S.rg.length = 6) (ho : S.pu.length ≤ 100) :
    Calls Tryz.prog 35 #[.pointer (some ⟨g, 0, none⟩), (⟨op, (a : Int), b, c, x⟩ : In).val] w fun e w' => DP B w g tv (S.put ⟨S.at (a : Int), zV, true⟩) e w' := by
  obtain ⟨r, cap, rfl, hBr, hr, hrg⟩ := at_cells hM h6
  have hgb := World.grownBy_alloc w (.cells #[.int .i64 op, .int .i64 (a : Int), .int .i64 b, .int .i64 c, .int .i64 x.k, .int .i64 x.n, .string x.s] 44) none
  have hb : Ib (w.alloc (.cells #[.int .i64 op, .int .i64 (a : Int), .int .i64 b, .int .i64 c, .int .i64 x.k, .int .i64 x.n, .string x.s] 44)) w.heap.size ⟨op, (a : Int), b, c, x⟩ := Ib.new w ⟨op, (a : Int), b, c, x⟩
  have hM1 := hM.keptN hgb
  have la' : (a : Int) < 6 := by omega
  unfold In.val
  dsimp only
  go_enter Tryz.func35, Tryz.ntmps35
  go_upto_region 1 with fail
  have HG1 := hide (kp_n (B := B) hgb)
  generalize w.alloc (.cells #[.int .i64 op, .int .i64 (a : Int), .int .i64 b, .int .i64 c, .int .i64 x.k, .int .i64 x.n, .string x.s] 44) = W at *
  have hqg : g < w.heap.size := hM.lt
  generalize hq : w.heap.size = q at *
  obtain ⟨b0, b1, b2, b3, b4, b5, b6⟩ := hb.cs
  dsimp only at b0 b1 b2 b3 b4 b5 b6
  have t2 := hM1.tb.c2
  obtain ⟨ar0, ar1, ar2, rf⟩ := rg_cells hM1 h6 a la
  have nq : ¬ (q = g ∨ pv.ownBlock = some q) := fun e => by
    rcases e with e | e
    · omega
    · have := (hM.pu.lt q e).2; omega
  have nr : ¬ (r = g ∨ pv.ownBlock = some r) := fun e => by
    rcases e with e | e
    · exact hrg e
    · exact (hM1.ap.r r rfl).2.1 e
  have Hput : Hid (∀ W0, W.grownBy W0 none → Calls Tryz.prog 65 #[.pointer (some ⟨g, 0, none⟩), .agg #[.int .i64 (S.at (a : Int)).k, .int .i64 (S.at (a : Int)).n, .string (S.at (a : Int)).s, .int .i64 0, .int .i64 0, .string ⟨#[]⟩, .bool true]] W0 fun e w' => DP B W0 g tv (S.put ⟨S.at (a : Int), zV, true⟩) e w' ∧ Kp (fun k => k = g ∨ pv.ownBlock = some k) W0 w' ∧ w'.cell? ⟨g, 2, none⟩ = some (.slice (some ⟨r, 0, none⟩) 6 cap)) := fun W0 hg => m_put B g tv _ pv ov kv S ⟨S.at (a : Int), zV, true⟩ W0 (hM1.keptN hg) h6 ho
  refine wp_region_held_drew (S := fun W0 => Kp (fun k => k = g ∨ pv.ownBlock = some k) W W0 ∧ W0.cell? ⟨g, 2, none⟩ = some (.slice (some ⟨r, 0, none⟩) 6 cap)) (by kernel_rfl) (⟨Kp.drew _ _, t2⟩) (fun hHeld => ?_)
  refine take_at (i := 0) (d := 5) (v := ?_) rfl rfl (by kernel_rfl) (by kernel_rfl) (by kernel_rfl) (fun _ _ _ h => h) (Or.inl ⟨by rfl, ?_⟩) (by assumption) ?_
  rotate_left
  · intro W hSW
    try dsimp only at hSW
    have ng := hSW.2
    have g1 := hSW.1.cell b1 nq
    have g2 := hSW.1.cell b2 nq
    have g3 := hSW.1.cell b3 nq
    have ha0 := hSW.1.cell ar0 nr
    have ha1 := hSW.1.cell ar1 nr
    have ha2 := hSW.1.cell ar2 nr
    go_simp
    try with_reducible rfl
  try simp only [Act.put, List.setIfInBounds_toArray, List.set_cons_zero, List.set_cons_succ]
  refine take_at (i := 1) (d := 6) (v := ?_) rfl rfl (by kernel_rfl) (by kernel_rfl) (by kernel_rfl) (fun _ _ _ h => h) (Or.inl ⟨by rfl, ?_⟩) (by assumption) ?_
  rotate_left
  · intro W hSW
    try dsimp only at hSW
    have ng := hSW.2
    have g1 := hSW.1.cell b1 nq
    have g2 := hSW.1.cell b2 nq
    have g3 := hSW.1.cell b3 nq
    have ha0 := hSW.1.cell ar0 nr
    have ha1 := hSW.1.cell ar1 nr
    have ha2 := hSW.1.cell ar2 nr
    go_simp
    try with_reducible rfl
  try simp only [Act.put, List.setIfInBounds_toArray, List.set_cons_zero, List.set_cons_succ]
  refine take_at (i := 2) (d := 7) (v := ?_) rfl rfl (by kernel_rfl) (by kernel_rfl) (by kernel_rfl) (fun _ _ _ h => h) (Or.inl ⟨by rfl, ?_⟩) (by assumption) ?_
  rotate_left
  · intro W hSW
    try dsimp only at hSW
    have ng := hSW.2
    have g1 := hSW.1.cell b1 nq
    have g2 := hSW.1.cell b2 nq
    have g3 := hSW.1.cell b3 nq
    have ha0 := hSW.1.cell ar0 nr
    have ha1 := hSW.1.cell ar1 nr
    have ha2 := hSW.1.cell ar2 nr
    go_simp
    try with_reducible rfl
  try simp only [Act.put, List.setIfInBounds_toArray, List.set_cons_zero, List.set_cons_succ]
  refine take_at (i := 3) (d := 8) (v := ?_) rfl rfl (by kernel_rfl) (by kernel_rfl) (by kernel_rfl) (fun _ _ _ h => h) (Or.inl ⟨by rfl, ?_⟩) (by assumption) ?_
  rotate_left
  · intro W hSW
    try dsimp only at hSW
    have ng := hSW.2
    have g1 := hSW.1.cell b1 nq
    have g2 := hSW.1.cell b2 nq
    have g3 := hSW.1.cell b3 nq
    have ha0 := hSW.1.cell ar0 nr
    have ha1 := hSW.1.cell ar1 nr
    have ha2 := hSW.1.cell ar2 nr
    go_simp
    try with_reducible rfl
  try simp only [Act.put, List.setIfInBounds_toArray, List.set_cons_zero, List.set_cons_succ]
  refine take_at (i := 4) (d := 9) (v := ?_) rfl rfl (by kernel_rfl) (by kernel_rfl) (by kernel_rfl) (fun _ _ _ h => h) (Or.inl ⟨by rfl, ?_⟩) (by assumption) ?_
  rotate_left
  · intro W hSW
    try dsimp only at hSW
    have ng := hSW.2
    have g1 := hSW.1.cell b1 nq
    have g2 := hSW.1.cell b2 nq
    have g3 := hSW.1.cell b3 nq
    have ha0 := hSW.1.cell ar0 nr
    have ha1 := hSW.1.cell ar1 nr
    have ha2 := hSW.1.cell ar2 nr
    go_simp
    try with_reducible rfl
  try simp only [Act.put, List.setIfInBounds_toArray, List.set_cons_zero, List.set_cons_succ]
  refine take_at (i := 5) (d := 10) (v := ?_) rfl rfl (by kernel_rfl) (by kernel_rfl) (by kernel_rfl) (fun _ _ _ h => h) (Or.inl ⟨by rfl, ?_⟩) (by assumption) ?_
  rotate_left
  · intro W hSW
    try dsimp only at hSW
    have ng := hSW.2
    have g1 := hSW.1.cell b1 nq
    have g2 := hSW.1.cell b2 nq
    have g3 := hSW.1.cell b3 nq
    have ha0 := hSW.1.cell ar0 nr
    have ha1 := hSW.1.cell ar1 nr
    have ha2 := hSW.1.cell ar2 nr
    go_simp
    try with_reducible rfl
  try simp only [Act.put, List.setIfInBounds_toArray, List.set_cons_zero, List.set_cons_succ]
  refine take_at (i := 6) (d := 11) (v := ?_) rfl rfl (by kernel_rfl) (by kernel_rfl) (by kernel_rfl) (fun _ _ _ h => h) (Or.inl ⟨by rfl, ?_⟩) (by assumption) ?_
  rotate_left
  · intro W hSW
    try dsimp only at hSW
    have ng := hSW.2
    have g1 := hSW.1.cell b1 nq
    have g2 := hSW.1.cell b2 nq
    have g3 := hSW.1.cell b3 nq
    have ha0 := hSW.1.cell ar0 nr
    have ha1 := hSW.1.cell ar1 nr
    have ha2 := hSW.1.cell ar2 nr
    go_simp
    try with_reducible rfl
  try simp only [Act.put, List.setIfInBounds_toArray, List.set_cons_zero, List.set_cons_succ]
  refine take_at (i := 7) (d := 12) (v := ?_) rfl rfl (by kernel_rfl) (by kernel_rfl) (by kernel_rfl) (fun _ _ _ h => h) (Or.inl ⟨by rfl, ?_⟩) (by assumption) ?_
  rotate_left
  · intro W hSW
    try dsimp only at hSW
    have ng := hSW.2
    have g1 := hSW.1.cell b1 nq
    have g2 := hSW.1.cell b2 nq
    have g3 := hSW.1.cell b3 nq
    have ha0 := hSW.1.cell ar0 nr
    have ha1 := hSW.1.cell ar1 nr
    have ha2 := hSW.1.cell ar2 nr
    go_simp
    try with_reducible rfl
  try simp only [Act.put, List.setIfInBounds_toArray, List.set_cons_zero, List.set_cons_succ]
  refine take_at (i := 8) (d := 13) (v := ?_) rfl rfl (by kernel_rfl) (by kernel_rfl) (by kernel_rfl) (fun _ _ _ h => h) (Or.inl ⟨by rfl, ?_⟩) (by assumption) ?_
  rotate_left
  · intro W hSW
    try dsimp only at hSW
    have ng := hSW.2
    have g1 := hSW.1.cell b1 nq
    have g2 := hSW.1.cell b2 nq
    have g3 := hSW.1.cell b3 nq
    have ha0 := hSW.1.cell ar0 nr
    have ha1 := hSW.1.cell ar1 nr
    have ha2 := hSW.1.cell ar2 nr
    go_simp
    try with_reducible rfl
  try simp only [Act.put, List.setIfInBounds_toArray, List.set_cons_zero, List.set_cons_succ]
  refine take_at (i := 9) (d := 14) (v := ?_) rfl rfl (by kernel_rfl) (by kernel_rfl) (by kernel_rfl) (fun _ _ _ h => h) (Or.inl ⟨by rfl, ?_⟩) (by assumption) ?_
  rotate_left
  · intro W hSW
    try dsimp only at hSW
    have ng := hSW.2
    have g1 := hSW.1.cell b1 nq
    have g2 := hSW.1.cell b2 nq
    have g3 := hSW.1.cell b3 nq
    have ha0 := hSW.1.cell ar0 nr
    have ha1 := hSW.1.cell ar1 nr
    have ha2 := hSW.1.cell ar2 nr
    go_simp
    try with_reducible rfl
  try simp only [Act.put, List.setIfInBounds_toArray, List.set_cons_zero, List.set_cons_succ]
  refine wpAnyH_ready (rs := [10]) (by kernel_rfl) (by simp) ?_
  refine AllReadyH.cons rfl (fun K hK => ?_) ?_
  · go_simp
    go_wp2_with (go_at_call 65; refine (Hput.out _ (grown_dr W)).mono ?_; rintro e w4 ⟨hD, hO, hc⟩; obtain ⟨bb, rfl, hR, hk⟩ := hD)
    refine hK.out _ _ (⟨(Kp.drew _ _).then hO, hc⟩) (fun hHeld => ?_)
    clear hK K
    try simp only [Act.put, List.setIfInBounds_toArray, List.set_cons_zero, List.set_cons_succ]
    refine take_at (i := 11) (d := 4) (v := ?_) rfl rfl (by kernel_rfl) (by kernel_rfl) (by kernel_rfl) (fun _ _ _ h => h) (Or.inl ⟨by rfl, ?_⟩) (by assumption) ?_
    rotate_left
    · intro W hSW
      try dsimp only at hSW
      go_simp
      try with_reducible rfl
    try simp only [Act.put, List.setIfInBounds_toArray, List.set_cons_zero, List.set_cons_succ]
    refine wpAnyH_done (by kernel_rfl) ?_ _
    go_wp2
    go_ret
    exact ⟨bb, rfl, hR, (HG1.out.then (Kp.drew _ _)).then hk⟩
  exact AllReadyH.nil

end Go.Proofs.YtpoahegccjgnjaaGreatDoor
