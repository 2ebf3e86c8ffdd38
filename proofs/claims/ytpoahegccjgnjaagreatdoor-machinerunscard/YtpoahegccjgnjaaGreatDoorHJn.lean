/- Contracts, over the turned program: machine's deed that gives a message out. Conditions: those that each theorem states. Contracts, over the turned program: machine's deed that starts a child. Conditions: those that each theorem states. -/
import Derived.Test.YtpoahegccjgnjaaGreatDoorHJo
import Derived.Test.YtpoahegccjgnjaaGreatDoorHJa
namespace Go.Proofs.YtpoahegccjgnjaaGreatDoor
open Go.RowKit
set_option linter.unusedVariables false

theorem infoVv : (Tryz.prog.info? 31).map (fun i => (i.zero, i.size, i.bytes)) = some (some (.agg #[.int .i64 0, .int .i64 0, .string ByteArray.empty]), 3, 32) := by kernel_rfl
set_option maxRecDepth 100000 in
set_option maxHeartbeats 1000000 in
theorem m_emit (B : Bd) (g : Nat) (tv rv pv ov kv : Value) (S : Ms) (x : V) (op b c : Int) (a : Nat) (la : a < 6) (w : World) (hM : Mb B w g tv S rv pv ov kv) (h6 : S.rg.length = 6) (ho : S.ou.length ≤ 100) :
    Calls Tryz.prog 36 #[.pointer (some ⟨g, 0, none⟩), (⟨op, (a : Int), b, c, x⟩ : In).val] w fun e w' => DP B w g tv (if S.ou.length + 1 ≤ 4 then .go ⟨S.pc, S.rg, S.pu, S.ou ++ [S.at (a : Int)], S.ki, S.sl⟩ else .bad) e w' := by
  obtain ⟨r, cap, rfl, hBr, hr, hrg⟩ := at_cells hM h6
  have hgb := World.grownBy_alloc w (.cells #[.int .i64 op, .int .i64 (a : Int), .int .i64 b, .int .i64 c, .int .i64 x.k, .int .i64 x.n, .string x.s] 44) none
  have hb : Ib (w.alloc (.cells #[.int .i64 op, .int .i64 (a : Int), .int .i64 b, .int .i64 c, .int .i64 x.k, .int .i64 x.n, .string x.s] 44)) w.heap.size ⟨op, (a : Int), b, c, x⟩ := Ib.new w ⟨op, (a : Int), b, c, x⟩
  have hM1 := hM.keptN hgb
  have la' : (a : Int) < 6 := by omega
  obtain ⟨R, HR⟩ : ∃ R, Hid ((if S.ou.length + 1 ≤ 4 then Rs.go ⟨S.pc, S.rg, S.pu, S.ou ++ [S.at (a : Int)], S.ki, S.sl⟩ else Rs.bad) = R) := ⟨_, rfl⟩
  rw [HR.out]
  unfold In.val
  dsimp only
  go_enter Tryz.func36, Tryz.ntmps36
  go_upto_region 1 with fail
  have HG1 := hide (kp_n (B := B) hgb)
  generalize w.alloc (.cells #[.int .i64 op, .int .i64 (a : Int), .int .i64 b, .int .i64 c, .int .i64 x.k, .int .i64 x.n, .string x.s] 44) = W at *
  have hqg : g < w.heap.size := hM.lt
  generalize hq : w.heap.size = q at *
  obtain ⟨b0, b1, b2, b3, b4, b5, b6⟩ := hb.cs
  dsimp only at b0 b1 b2 b3 b4 b5 b6
  have t2 := hM1.tb.c2
  obtain ⟨ar0, ar1, ar2, rf⟩ := rg_cells hM1 h6 a la
  have nq : ¬ (q = g ∨ ov.ownBlock = some q) := fun e => by
    rcases e with e | e
    · omega
    · have := (hM.ou.lt q e).2; omega
  have nr : ¬ (r = g ∨ ov.ownBlock = some r) := fun e => by
    rcases e with e | e
    · exact hrg e
    · exact (hM1.ap.r r rfl).2.2.1 e
  obtain ⟨N, HN⟩ : ∃ N, Hid (S.ou.length + 1 = N) := ⟨_, rfl⟩
  have hga3 : W.grownBy (World.alloc (World.drew W) (.cells #[.int .i64 (S.at (a : Int)).k, .int .i64 (S.at (a : Int)).n, .string (S.at (a : Int)).s] 31)) none := grown_up (grown_dr W) (World.grownBy_alloc _ (.cells #[.int .i64 (S.at (a : Int)).k, .int .i64 (S.at (a : Int)).n, .string (S.at (a : Int)).s] 31) none)
  have hMB := hM1.keptN hga3
  have hheap : (World.alloc (World.drew W) (.cells #[.int .i64 (S.at (a : Int)).k, .int .i64 (S.at (a : Int)).n, .string (S.at (a : Int)).s] 31)).heap[W.heap.size]? = some (.cells (V.cells (S.at (a : Int))).toArray 31 (0, 0)) := heap_alloc_new (World.drew W) (.cells #[.int .i64 (S.at (a : Int)).k, .int .i64 (S.at (a : Int)).n, .string (S.at (a : Int)).s] 31)
  obtain ⟨pr, pcap, w5, hrun, hO5, hg5, hw5⟩ := app_oneR clV (by omega) 23 31 Tryz.underlying23 (.agg #[.int .i64 0, .int .i64 0, .string ByteArray.empty]) 32 infoVv (by rfl) (by omega) (World.alloc (World.drew W) (.cells #[.int .i64 (S.at (a : Int)).k, .int .i64 (S.at (a : Int)).n, .string (S.at (a : Int)).s] 31)) B.1 ov S.ou (S.at (a : Int)) W.heap.size hMB.ou hheap (Nat.le_trans hM1.gB.1 (Nat.le_of_lt hMB.lt)) (by omega)
  have hP := hMB.appO hO5 hg5 hw5
  have ht5 := hMB.tb.kept hg5 (fun e => (hMB.ap.o g e.symm).1 rfl)
  have x4 := ht5.c4
  have x2 := ht5.c2
  have xf := ht5.fz 4
  have t4 := hM1.tb.c4
  have a4 := hMB.tb.c4
  have a2 := hMB.tb.c2
  have a4' : (World.alloc W (.cells #[.int .i64 (S.at (a : Int)).k, .int .i64 (S.at (a : Int)).n, .string (S.at (a : Int)).s] 31)).cell? ⟨g, 4, none⟩ = some ov := a4
  rw [HN.out] at hrun hO5 hP
  have HK5 := hide ((HG1.out.then (kp_n (B := B) hga3)).then ((kp_bl hMB.ouB hg5).then (Kp.setCell w5 g 4 (.slice (some ⟨pr, 0, none⟩) N pcap) (show Bk B g from hM1.gB))))
  have HP := hide hP
  have HX := hide ht5
  refine wp_region_held_drew (S := fun W0 => Kp (fun k => k = g ∨ ov.ownBlock = some k) W W0 ∧ W0.cell? ⟨g, 2, none⟩ = some (.slice (some ⟨r, 0, none⟩) 6 cap)) (by kernel_rfl) (⟨Kp.drew _ _, t2⟩) (fun hHeld => ?_)
  refine take_at (i := 0) (d := 5) (v := ?_) rfl rfl (by kernel_rfl) (by kernel_rfl) (by kernel_rfl) (fun _ _ _ h => h) (Or.inl ⟨by rfl, ?_⟩) (by assumption) ?_
  rotate_left
  · intro W hSW
    try dsimp only at hSW
    have ng := hSW.2
    have g1 := hSW.1.cell b1 nq
    have g2 := hSW.1.cell b2 nq
    have g3 := hSW.1.cell b3 nq
    have h0 := hSW.1.cell ar0 nr
    have h1 := hSW.1.cell ar1 nr
    have h2 := hSW.1.cell ar2 nr
    go_simp
    try with_reducible rfl
  try simp only [Act.put, List.setIfInBounds_toArray, List.set_cons_zero, List.set_cons_succ]
  refine take_at (i := 1) (d := 6) (v := ?_) rfl rfl (by kernel_rfl) (by kernel_rfl) (by kernel_rfl) (fun _ _ _ h => h) (Or.inl ⟨by rfl, ?_⟩) (by assumption) ?_
  rotate_left
  · intro W hSW
    try dsimp only at hSW
    have ng := hSW.2
    have g1 := hSW.1.cell b1 nq
    have g2 := hSW.1.cell b2 nq
    have g3 := hSW.1.cell b3 nq
    have h0 := hSW.1.cell ar0 nr
    have h1 := hSW.1.cell ar1 nr
    have h2 := hSW.1.cell ar2 nr
    go_simp
    try with_reducible rfl
  try simp only [Act.put, List.setIfInBounds_toArray, List.set_cons_zero, List.set_cons_succ]
  refine take_at (i := 2) (d := 7) (v := ?_) rfl rfl (by kernel_rfl) (by kernel_rfl) (by kernel_rfl) (fun _ _ _ h => h) (Or.inl ⟨by rfl, ?_⟩) (by assumption) ?_
  rotate_left
  · intro W hSW
    try dsimp only at hSW
    have ng := hSW.2
    have g1 := hSW.1.cell b1 nq
    have g2 := hSW.1.cell b2 nq
    have g3 := hSW.1.cell b3 nq
    have h0 := hSW.1.cell ar0 nr
    have h1 := hSW.1.cell ar1 nr
    have h2 := hSW.1.cell ar2 nr
    go_simp
    try with_reducible rfl
  try simp only [Act.put, List.setIfInBounds_toArray, List.set_cons_zero, List.set_cons_succ]
  refine take_at (i := 3) (d := 8) (v := ?_) rfl rfl (by kernel_rfl) (by kernel_rfl) (by kernel_rfl) (fun _ _ _ h => h) (Or.inl ⟨by rfl, ?_⟩) (by assumption) ?_
  rotate_left
  · intro W hSW
    try dsimp only at hSW
    have ng := hSW.2
    have g1 := hSW.1.cell b1 nq
    have g2 := hSW.1.cell b2 nq
    have g3 := hSW.1.cell b3 nq
    have h0 := hSW.1.cell ar0 nr
    have h1 := hSW.1.cell ar1 nr
    have h2 := hSW.1.cell ar2 nr
    go_simp
    try with_reducible rfl
  try simp only [Act.put, List.setIfInBounds_toArray, List.set_cons_zero, List.set_cons_succ]
  refine take_at (i := 4) (d := 9) (v := ?_) rfl rfl (by kernel_rfl) (by kernel_rfl) (by kernel_rfl) (fun _ _ _ h => h) (Or.inl ⟨by rfl, ?_⟩) (by assumption) ?_
  rotate_left
  · intro W hSW
    try dsimp only at hSW
    have ng := hSW.2
    have g1 := hSW.1.cell b1 nq
    have g2 := hSW.1.cell b2 nq
    have g3 := hSW.1.cell b3 nq
    have h0 := hSW.1.cell ar0 nr
    have h1 := hSW.1.cell ar1 nr
    have h2 := hSW.1.cell ar2 nr
    go_simp
    try with_reducible rfl
  try simp only [Act.put, List.setIfInBounds_toArray, List.set_cons_zero, List.set_cons_succ]
  refine take_at (i := 6) (d := 11) (v := ?_) rfl rfl (by kernel_rfl) (by kernel_rfl) (by kernel_rfl) (fun _ _ _ h => h) (Or.inl ⟨by rfl, ?_⟩) (by assumption) ?_
  rotate_left
  · intro W hSW
    try dsimp only at hSW
    have ng := hSW.2
    have g1 := hSW.1.cell b1 nq
    have g2 := hSW.1.cell b2 nq
    have g3 := hSW.1.cell b3 nq
    have h0 := hSW.1.cell ar0 nr
    have h1 := hSW.1.cell ar1 nr
    have h2 := hSW.1.cell ar2 nr
    go_simp
    try with_reducible rfl
  try simp only [Act.put, List.setIfInBounds_toArray, List.set_cons_zero, List.set_cons_succ]
  refine take_at (i := 7) (d := 12) (v := ?_) rfl rfl (by kernel_rfl) (by kernel_rfl) (by kernel_rfl) (fun _ _ _ h => h) (Or.inl ⟨by rfl, ?_⟩) (by assumption) ?_
  rotate_left
  · intro W hSW
    try dsimp only at hSW
    have ng := hSW.2
    have g1 := hSW.1.cell b1 nq
    have g2 := hSW.1.cell b2 nq
    have g3 := hSW.1.cell b3 nq
    have h0 := hSW.1.cell ar0 nr
    have h1 := hSW.1.cell ar1 nr
    have h2 := hSW.1.cell ar2 nr
    go_simp
    try with_reducible rfl
  try simp only [Act.put, List.setIfInBounds_toArray, List.set_cons_zero, List.set_cons_succ]
  refine take_at (i := 8) (d := 13) (v := ?_) rfl rfl (by kernel_rfl) (by kernel_rfl) (by kernel_rfl) (fun _ _ _ h => h) (Or.inl ⟨by rfl, ?_⟩) (by assumption) ?_
  rotate_left
  · intro W hSW
    try dsimp only at hSW
    have ng := hSW.2
    have g1 := hSW.1.cell b1 nq
    have g2 := hSW.1.cell b2 nq
    have g3 := hSW.1.cell b3 nq
    have h0 := hSW.1.cell ar0 nr
    have h1 := hSW.1.cell ar1 nr
    have h2 := hSW.1.cell ar2 nr
    go_simp
    try with_reducible rfl
  try simp only [Act.put, List.setIfInBounds_toArray, List.set_cons_zero, List.set_cons_succ]
  refine take_at (i := 9) (d := 14) (v := ?_) rfl rfl (by kernel_rfl) (by kernel_rfl) (by kernel_rfl) (fun _ _ _ h => h) (Or.inl ⟨by rfl, ?_⟩) (by assumption) ?_
  rotate_left
  · intro W hSW
    try dsimp only at hSW
    have ng := hSW.2
    have g1 := hSW.1.cell b1 nq
    have g2 := hSW.1.cell b2 nq
    have g3 := hSW.1.cell b3 nq
    have h0 := hSW.1.cell ar0 nr
    have h1 := hSW.1.cell ar1 nr
    have h2 := hSW.1.cell ar2 nr
    go_simp
    try with_reducible rfl
  try simp only [Act.put, List.setIfInBounds_toArray, List.set_cons_zero, List.set_cons_succ]
  refine take_at (i := 10) (d := 15) (v := ?_) rfl rfl (by kernel_rfl) (by kernel_rfl) (by kernel_rfl) (fun _ _ _ h => h) (Or.inl ⟨by rfl, ?_⟩) (by assumption) ?_
  rotate_left
  · intro W hSW
    try dsimp only at hSW
    have ng := hSW.2
    have g1 := hSW.1.cell b1 nq
    have g2 := hSW.1.cell b2 nq
    have g3 := hSW.1.cell b3 nq
    have h0 := hSW.1.cell ar0 nr
    have h1 := hSW.1.cell ar1 nr
    have h2 := hSW.1.cell ar2 nr
    go_simp
    try with_reducible rfl
  try simp only [Act.put, List.setIfInBounds_toArray, List.set_cons_zero, List.set_cons_succ]
  refine take_at (i := 11) (d := 16) (v := ?_) rfl rfl (by kernel_rfl) (by kernel_rfl) (by kernel_rfl) (fun _ _ _ h => h) (Or.inl ⟨by rfl, ?_⟩) (by assumption) ?_
  rotate_left
  · intro W hSW
    try dsimp only at hSW
    have ng := hSW.2
    have g1 := hSW.1.cell b1 nq
    have g2 := hSW.1.cell b2 nq
    have g3 := hSW.1.cell b3 nq
    have h0 := hSW.1.cell ar0 nr
    have h1 := hSW.1.cell ar1 nr
    have h2 := hSW.1.cell ar2 nr
    go_simp
    try with_reducible rfl
  try simp only [Act.put, List.setIfInBounds_toArray, List.set_cons_zero, List.set_cons_succ]
  refine take_at (i := 12) (d := 17) (v := ?_) rfl rfl (by kernel_rfl) (by kernel_rfl) (by kernel_rfl) (fun _ _ _ h => h) (Or.inl ⟨by rfl, ?_⟩) (by assumption) ?_
  rotate_left
  · intro W hSW
    try dsimp only at hSW
    have ng := hSW.2
    have g1 := hSW.1.cell b1 nq
    have g2 := hSW.1.cell b2 nq
    have g3 := hSW.1.cell b3 nq
    have h0 := hSW.1.cell ar0 nr
    have h1 := hSW.1.cell ar1 nr
    have h2 := hSW.1.cell ar2 nr
    go_simp
    try with_reducible rfl
  try simp only [Act.put, List.setIfInBounds_toArray, List.set_cons_zero, List.set_cons_succ]
  refine take_at (i := 13) (d := 18) (v := ?_) rfl rfl (by kernel_rfl) (by kernel_rfl) (by kernel_rfl) (fun _ _ _ h => h) (Or.inl ⟨by rfl, ?_⟩) (by assumption) ?_
  rotate_left
  · intro W hSW
    try dsimp only at hSW
    have ng := hSW.2
    have g1 := hSW.1.cell b1 nq
    have g2 := hSW.1.cell b2 nq
    have g3 := hSW.1.cell b3 nq
    have h0 := hSW.1.cell ar0 nr
    have h1 := hSW.1.cell ar1 nr
    have h2 := hSW.1.cell ar2 nr
    go_simp
    try with_reducible rfl
  try simp only [Act.put, List.setIfInBounds_toArray, List.set_cons_zero, List.set_cons_succ]
  refine wpAnyH_ready (rs := [5, 14]) (by kernel_rfl) (by simp) ?_
  refine AllReadyH.cons rfl (fun K hK => ?_) ?_
  · go_simp
    refine hK.out _ _ (⟨Kp.drew _ _, t2⟩) (fun hHeld => ?_)
    clear hK K
    try simp only [Act.put, List.setIfInBounds_toArray, List.set_cons_zero, List.set_cons_succ]
    refine wpAnyH_ready (rs := [14]) (by kernel_rfl) (by simp) ?_
    refine AllReadyH.cons rfl (fun K hK => ?_) ?_
    · go_simp
      refine hK.out _ _ (⟨(Kp.drew _ _).then (Kp.alloc _ _ _), a2⟩) (fun hHeld => ?_)
      clear hK K
      try simp only [Act.put, List.setIfInBounds_toArray, List.set_cons_zero, List.set_cons_succ]
      refine wpAnyH_ready (rs := [15]) (by kernel_rfl) (by simp) ?_
      refine AllReadyH.cons rfl (fun K hK => ?_) ?_
      · refine hstep_app 20 (by rfl) (by rfl) (.tmp 10) (.tmp 19) 23 23 23 (by rfl) (by rfl) ov (.slice (some ⟨W.heap.size, 0, none⟩) 1 1) (by rfl) (by rfl) hrun ?_
        refine hK.out _ _ (⟨((Kp.drew _ _).then (Kp.alloc _ _ _)).then (Kp.ofGrown hg5 (fun k e _ => .inr e)), x2⟩) (fun hHeld => ?_)
        clear hK K
        try simp only [Act.put, List.setIfInBounds_toArray, List.set_cons_zero, List.set_cons_succ]
        refine take_at (i := 16) (d := 21) (v := ?_) rfl rfl (by kernel_rfl) (by kernel_rfl) (by kernel_rfl) (fun _ _ _ h => h) (Or.inl ⟨by rfl, ?_⟩) (by assumption) ?_
        rotate_left
        · intro W hSW
          try dsimp only at hSW
          go_simp
          try with_reducible rfl
        try simp only [Act.put, List.setIfInBounds_toArray, List.set_cons_zero, List.set_cons_succ]
        refine take_at (i := 17) (d := 22) (v := ?_) rfl rfl (by kernel_rfl) (by kernel_rfl) (by kernel_rfl) (fun _ _ _ h => h) (Or.inl ⟨by rfl, ?_⟩) (by assumption) ?_
        rotate_left
        · intro W hSW
          try dsimp only at hSW
          go_simp
          try with_reducible rfl
        try simp only [Act.put, List.setIfInBounds_toArray, List.set_cons_zero, List.set_cons_succ]
        refine take_at (i := 18) (d := 23) (v := ?_) rfl rfl (by kernel_rfl) (by kernel_rfl) (by kernel_rfl) (fun _ _ _ h => h) (Or.inl ⟨by rfl, ?_⟩) (by assumption) ?_
        rotate_left
        · intro W hSW
          try dsimp only at hSW
          go_simp
          try with_reducible rfl
        try simp only [Act.put, List.setIfInBounds_toArray, List.set_cons_zero, List.set_cons_succ]
        refine wpAnyH_ready (rs := [19]) (by kernel_rfl) (by simp) ?_
        refine AllReadyH.cons rfl (fun K hK => ?_) ?_
        · go_simp
          refine hK.out _ _ (⟨(((Kp.drew _ _).then (Kp.alloc _ _ _)).then (Kp.ofGrown hg5 (fun k e _ => .inr e))).then (Kp.setCell w5 g 4 _ (.inl rfl)), HP.out.tb.c2⟩) (fun hHeld => ?_)
          clear hK K
          try simp only [Act.put, List.setIfInBounds_toArray, List.set_cons_zero, List.set_cons_succ]
          refine wpAnyH_done (by kernel_rfl) ?_ _
          have c5 := HP.out.tb.c4
          generalize w5.setCell ⟨g, 4, none⟩ (.slice (some ⟨pr, 0, none⟩) N pcap) = W6 at *
          by_cases hs : S.ou.length + 1 ≤ 4
          · have hz : (N : Int) ≤ 4 := by have := HN.out; omega
            have e := HR.out
            rw [if_pos hs] at e
            subst e
            go_wp2
            go_ret
            exact DP.go HP.out HK5.out
          · have hz : ¬ (N : Int) ≤ 4 := by have := HN.out; omega
            have e := HR.out
            rw [if_neg hs] at e
            subst e
            go_wp2
            go_ret
            exact DP.bad HK5.out
        exact AllReadyH.nil
      exact AllReadyH.nil
    exact AllReadyH.nil
  refine AllReadyH.cons rfl (fun K hK => ?_) ?_
  · go_simp
    refine hK.out _ _ (⟨(Kp.drew _ _).then (Kp.alloc _ _ _), a2⟩) (fun hHeld => ?_)
    clear hK K
    try simp only [Act.put, List.setIfInBounds_toArray, List.set_cons_zero, List.set_cons_succ]
    refine wpAnyH_ready (rs := [5]) (by kernel_rfl) (by simp) ?_
    refine AllReadyH.cons rfl (fun K hK => ?_) ?_
    · go_simp
      refine hK.out _ _ (⟨(Kp.drew _ _).then (Kp.alloc _ _ _), a2⟩) (fun hHeld => ?_)
      clear hK K
      try simp only [Act.put, List.setIfInBounds_toArray, List.set_cons_zero, List.set_cons_succ]
      refine wpAnyH_ready (rs := [15]) (by kernel_rfl) (by simp) ?_
      refine AllReadyH.cons rfl (fun K hK => ?_) ?_
      · refine hstep_app 20 (by rfl) (by rfl) (.tmp 10) (.tmp 19) 23 23 23 (by rfl) (by rfl) ov (.slice (some ⟨W.heap.size, 0, none⟩) 1 1) (by rfl) (by rfl) hrun ?_
        refine hK.out _ _ (⟨((Kp.drew _ _).then (Kp.alloc _ _ _)).then (Kp.ofGrown hg5 (fun k e _ => .inr e)), x2⟩) (fun hHeld => ?_)
        clear hK K
        try simp only [Act.put, List.setIfInBounds_toArray, List.set_cons_zero, List.set_cons_succ]
        refine take_at (i := 16) (d := 21) (v := ?_) rfl rfl (by kernel_rfl) (by kernel_rfl) (by kernel_rfl) (fun _ _ _ h => h) (Or.inl ⟨by rfl, ?_⟩) (by assumption) ?_
        rotate_left
        · intro W hSW
          try dsimp only at hSW
          go_simp
          try with_reducible rfl
        try simp only [Act.put, List.setIfInBounds_toArray, List.set_cons_zero, List.set_cons_succ]
        refine take_at (i := 17) (d := 22) (v := ?_) rfl rfl (by kernel_rfl) (by kernel_rfl) (by kernel_rfl) (fun _ _ _ h => h) (Or.inl ⟨by rfl, ?_⟩) (by assumption) ?_
        rotate_left
        · intro W hSW
          try dsimp only at hSW
          go_simp
          try with_reducible rfl
        try simp only [Act.put, List.setIfInBounds_toArray, List.set_cons_zero, List.set_cons_succ]
        refine take_at (i := 18) (d := 23) (v := ?_) rfl rfl (by kernel_rfl) (by kernel_rfl) (by kernel_rfl) (fun _ _ _ h => h) (Or.inl ⟨by rfl, ?_⟩) (by assumption) ?_
        rotate_left
        · intro W hSW
          try dsimp only at hSW
          go_simp
          try with_reducible rfl
        try simp only [Act.put, List.setIfInBounds_toArray, List.set_cons_zero, List.set_cons_succ]
        refine wpAnyH_ready (rs := [19]) (by kernel_rfl) (by simp) ?_
        refine AllReadyH.cons rfl (fun K hK => ?_) ?_
        · go_simp
          refine hK.out _ _ (⟨(((Kp.drew _ _).then (Kp.alloc _ _ _)).then (Kp.ofGrown hg5 (fun k e _ => .inr e))).then (Kp.setCell w5 g 4 _ (.inl rfl)), HP.out.tb.c2⟩) (fun hHeld => ?_)
          clear hK K
          try simp only [Act.put, List.setIfInBounds_toArray, List.set_cons_zero, List.set_cons_succ]
          refine wpAnyH_done (by kernel_rfl) ?_ _
          have c5 := HP.out.tb.c4
          generalize w5.setCell ⟨g, 4, none⟩ (.slice (some ⟨pr, 0, none⟩) N pcap) = W6 at *
          by_cases hs : S.ou.length + 1 ≤ 4
          · have hz : (N : Int) ≤ 4 := by have := HN.out; omega
            have e := HR.out
            rw [if_pos hs] at e
            subst e
            go_wp2
            go_ret
            exact DP.go HP.out HK5.out
          · have hz : ¬ (N : Int) ≤ 4 := by have := HN.out; omega
            have e := HR.out
            rw [if_neg hs] at e
            subst e
            go_wp2
            go_ret
            exact DP.bad HK5.out
        exact AllReadyH.nil
      exact AllReadyH.nil
    exact AllReadyH.nil
  exact AllReadyH.nil

end Go.Proofs.YtpoahegccjgnjaaGreatDoor

namespace Go.Proofs.YtpoahegccjgnjaaGreatDoor
open Go.RowKit
set_option linter.unusedVariables false

theorem infoS : (Tryz.prog.info? 64).map (fun i => (i.zero, i.size, i.bytes)) = some (some (.agg #[.int .i64 0, .int .i64 0, .int .i64 0, .string ByteArray.empty, .int .i64 0, .int .i64 0, .string ByteArray.empty]), 7, 72) := by kernel_rfl
set_option maxRecDepth 100000 in
set_option maxHeartbeats 1000000 in
theorem m_child (B : Bd) (g : Nat) (tv rv pv ov kv : Value) (S : Ms) (x : V) (op a : Int) (b c : Nat) (lb : b < 6) (lc : c < 6) (w : World) (hM : Mb B w g tv S rv pv ov kv) (h6 : S.rg.length = 6) (ho : S.ki.length ≤ 100) :
    Calls Tryz.prog 38 #[.pointer (some ⟨g, 0, none⟩), (⟨op, a, (b : Int), (c : Int), x⟩ : In).val] w fun e w' => DP B w g tv (if S.ki.length + 1 ≤ 2 then .go ⟨S.pc, S.rg, S.pu, S.ou, S.ki ++ [Sp.mk a (S.at (b : Int)) (S.at (c : Int))], S.sl⟩ else .bad) e w' := by
  obtain ⟨r, cap, rfl, hBr, hr, hrg⟩ := at_cells hM h6
  have hgb := World.grownBy_alloc w (.cells #[.int .i64 op, .int .i64 a, .int .i64 (b : Int), .int .i64 (c : Int), .int .i64 x.k, .int .i64 x.n, .string x.s] 44) none
  have hb : Ib (w.alloc (.cells #[.int .i64 op, .int .i64 a, .int .i64 (b : Int), .int .i64 (c : Int), .int .i64 x.k, .int .i64 x.n, .string x.s] 44)) w.heap.size ⟨op, a, (b : Int), (c : Int), x⟩ := Ib.new w ⟨op, a, (b : Int), (c : Int), x⟩
  have hM1 := hM.keptN hgb
  have lb' : (b : Int) < 6 := by omega
  have lc' : (c : Int) < 6 := by omega
  obtain ⟨R, HR⟩ : ∃ R, Hid ((if S.ki.length + 1 ≤ 2 then Rs.go ⟨S.pc, S.rg, S.pu, S.ou, S.ki ++ [Sp.mk a (S.at (b : Int)) (S.at (c : Int))], S.sl⟩ else Rs.bad) = R) := ⟨_, rfl⟩
  rw [HR.out]
  unfold In.val
  dsimp only
  go_enter Tryz.func38, Tryz.ntmps38
  go_upto_region 1 with fail
  have HG1 := hide (kp_n (B := B) hgb)
  generalize w.alloc (.cells #[.int .i64 op, .int .i64 a, .int .i64 (b : Int), .int .i64 (c : Int), .int .i64 x.k, .int .i64 x.n, .string x.s] 44) = W at *
  have hqg : g < w.heap.size := hM.lt
  generalize hq : w.heap.size = q at *
  obtain ⟨b0, b1, b2, b3, b4, b5, b6⟩ := hb.cs
  dsimp only at b0 b1 b2 b3 b4 b5 b6
  have t2 := hM1.tb.c2
  obtain ⟨br0, br1, br2, rf⟩ := rg_cells hM1 h6 b lb
  obtain ⟨cr0, cr1, cr2, rf⟩ := rg_cells hM1 h6 c lc
  have nq : ¬ (q = g ∨ kv.ownBlock = some q) := fun e => by
    rcases e with e | e
    · omega
    · have := (hM.ki.lt q e).2; omega
  have nr : ¬ (r = g ∨ kv.ownBlock = some r) := fun e => by
    rcases e with e | e
    · exact hrg e
    · exact (hM1.ap.r r rfl).2.2.2 e
  obtain ⟨N, HN⟩ : ∃ N, Hid (S.ki.length + 1 = N) := ⟨_, rfl⟩
  have hga3 : W.grownBy (World.alloc (World.drew W) (.cells #[.int .i64 a, .int .i64 (S.at (b : Int)).k, .int .i64 (S.at (b : Int)).n, .string (S.at (b : Int)).s, .int .i64 (S.at (c : Int)).k, .int .i64 (S.at (c : Int)).n, .string (S.at (c : Int)).s] 64)) none := grown_up (grown_dr W) (World.grownBy_alloc _ (.cells #[.int .i64 a, .int .i64 (S.at (b : Int)).k, .int .i64 (S.at (b : Int)).n, .string (S.at (b : Int)).s, .int .i64 (S.at (c : Int)).k, .int .i64 (S.at (c : Int)).n, .string (S.at (c : Int)).s] 64) none)
  have hMB := hM1.keptN hga3
  have hheap : (World.alloc (World.drew W) (.cells #[.int .i64 a, .int .i64 (S.at (b : Int)).k, .int .i64 (S.at (b : Int)).n, .string (S.at (b : Int)).s, .int .i64 (S.at (c : Int)).k, .int .i64 (S.at (c : Int)).n, .string (S.at (c : Int)).s] 64)).heap[W.heap.size]? = some (.cells (Sp.cells (Sp.mk a (S.at (b : Int)) (S.at (c : Int)))).toArray 64 (0, 0)) := heap_alloc_new (World.drew W) (.cells #[.int .i64 a, .int .i64 (S.at (b : Int)).k, .int .i64 (S.at (b : Int)).n, .string (S.at (b : Int)).s, .int .i64 (S.at (c : Int)).k, .int .i64 (S.at (c : Int)).n, .string (S.at (c : Int)).s] 64)
  obtain ⟨pr, pcap, w5, hrun, hO5, hg5, hw5⟩ := app_oneR clS (by omega) 28 64 Tryz.underlying28 (.agg #[.int .i64 0, .int .i64 0, .int .i64 0, .string ByteArray.empty, .int .i64 0, .int .i64 0, .string ByteArray.empty]) 72 infoS (by rfl) (by omega) (World.alloc (World.drew W) (.cells #[.int .i64 a, .int .i64 (S.at (b : Int)).k, .int .i64 (S.at (b : Int)).n, .string (S.at (b : Int)).s, .int .i64 (S.at (c : Int)).k, .int .i64 (S.at (c : Int)).n, .string (S.at (c : Int)).s] 64)) B.1 kv S.ki (Sp.mk a (S.at (b : Int)) (S.at (c : Int))) W.heap.size hMB.ki hheap (Nat.le_trans hM1.gB.1 (Nat.le_of_lt hMB.lt)) (by omega)
  have hP := hMB.appK hO5 hg5 hw5
  have ht5 := hMB.tb.kept hg5 (fun e => hMB.ap.k g e.symm rfl)
  have x5 := ht5.c5
  have x2 := ht5.c2
  have xf := ht5.fz 5
  have t5 := hM1.tb.c5
  have a5 := hMB.tb.c5
  have a2 := hMB.tb.c2
  have a5' : (World.alloc W (.cells #[.int .i64 a, .int .i64 (S.at (b : Int)).k, .int .i64 (S.at (b : Int)).n, .string (S.at (b : Int)).s, .int .i64 (S.at (c : Int)).k, .int .i64 (S.at (c : Int)).n, .string (S.at (c : Int)).s] 64)).cell? ⟨g, 5, none⟩ = some kv := a5
  rw [HN.out] at hrun hO5 hP
  have HK5 := hide ((HG1.out.then (kp_n (B := B) hga3)).then ((kp_bl hMB.kiB hg5).then (Kp.setCell w5 g 5 (.slice (some ⟨pr, 0, none⟩) N pcap) (show Bk B g from hM1.gB))))
  have HP := hide hP
  have HX := hide ht5
  refine wp_region_held_drew (S := fun W0 => Kp (fun k => k = g ∨ kv.ownBlock = some k) W W0 ∧ W0.cell? ⟨g, 2, none⟩ = some (.slice (some ⟨r, 0, none⟩) 6 cap)) (by kernel_rfl) (⟨Kp.drew _ _, t2⟩) (fun hHeld => ?_)
  refine take_at (i := 0) (d := 5) (v := ?_) rfl rfl (by kernel_rfl) (by kernel_rfl) (by kernel_rfl) (fun _ _ _ h => h) (Or.inl ⟨by rfl, ?_⟩) (by assumption) ?_
  rotate_left
  · intro W hSW
    try dsimp only at hSW
    have ng := hSW.2
    have g1 := hSW.1.cell b1 nq
    have g2 := hSW.1.cell b2 nq
    have g3 := hSW.1.cell b3 nq
    have hb0 := hSW.1.cell br0 nr
    have hb1 := hSW.1.cell br1 nr
    have hb2 := hSW.1.cell br2 nr
    have hc0 := hSW.1.cell cr0 nr
    have hc1 := hSW.1.cell cr1 nr
    have hc2 := hSW.1.cell cr2 nr
    go_simp
    try with_reducible rfl
  try simp only [Act.put, List.setIfInBounds_toArray, List.set_cons_zero, List.set_cons_succ]
  refine take_at (i := 1) (d := 6) (v := ?_) rfl rfl (by kernel_rfl) (by kernel_rfl) (by kernel_rfl) (fun _ _ _ h => h) (Or.inl ⟨by rfl, ?_⟩) (by assumption) ?_
  rotate_left
  · intro W hSW
    try dsimp only at hSW
    have ng := hSW.2
    have g1 := hSW.1.cell b1 nq
    have g2 := hSW.1.cell b2 nq
    have g3 := hSW.1.cell b3 nq
    have hb0 := hSW.1.cell br0 nr
    have hb1 := hSW.1.cell br1 nr
    have hb2 := hSW.1.cell br2 nr
    have hc0 := hSW.1.cell cr0 nr
    have hc1 := hSW.1.cell cr1 nr
    have hc2 := hSW.1.cell cr2 nr
    go_simp
    try with_reducible rfl
  try simp only [Act.put, List.setIfInBounds_toArray, List.set_cons_zero, List.set_cons_succ]
  refine take_at (i := 2) (d := 7) (v := ?_) rfl rfl (by kernel_rfl) (by kernel_rfl) (by kernel_rfl) (fun _ _ _ h => h) (Or.inl ⟨by rfl, ?_⟩) (by assumption) ?_
  rotate_left
  · intro W hSW
    try dsimp only at hSW
    have ng := hSW.2
    have g1 := hSW.1.cell b1 nq
    have g2 := hSW.1.cell b2 nq
    have g3 := hSW.1.cell b3 nq
    have hb0 := hSW.1.cell br0 nr
    have hb1 := hSW.1.cell br1 nr
    have hb2 := hSW.1.cell br2 nr
    have hc0 := hSW.1.cell cr0 nr
    have hc1 := hSW.1.cell cr1 nr
    have hc2 := hSW.1.cell cr2 nr
    go_simp
    try with_reducible rfl
  try simp only [Act.put, List.setIfInBounds_toArray, List.set_cons_zero, List.set_cons_succ]
  refine take_at (i := 3) (d := 8) (v := ?_) rfl rfl (by kernel_rfl) (by kernel_rfl) (by kernel_rfl) (fun _ _ _ h => h) (Or.inl ⟨by rfl, ?_⟩) (by assumption) ?_
  rotate_left
  · intro W hSW
    try dsimp only at hSW
    have ng := hSW.2
    have g1 := hSW.1.cell b1 nq
    have g2 := hSW.1.cell b2 nq
    have g3 := hSW.1.cell b3 nq
    have hb0 := hSW.1.cell br0 nr
    have hb1 := hSW.1.cell br1 nr
    have hb2 := hSW.1.cell br2 nr
    have hc0 := hSW.1.cell cr0 nr
    have hc1 := hSW.1.cell cr1 nr
    have hc2 := hSW.1.cell cr2 nr
    go_simp
    try with_reducible rfl
  try simp only [Act.put, List.setIfInBounds_toArray, List.set_cons_zero, List.set_cons_succ]
  refine take_at (i := 4) (d := 9) (v := ?_) rfl rfl (by kernel_rfl) (by kernel_rfl) (by kernel_rfl) (fun _ _ _ h => h) (Or.inl ⟨by rfl, ?_⟩) (by assumption) ?_
  rotate_left
  · intro W hSW
    try dsimp only at hSW
    have ng := hSW.2
    have g1 := hSW.1.cell b1 nq
    have g2 := hSW.1.cell b2 nq
    have g3 := hSW.1.cell b3 nq
    have hb0 := hSW.1.cell br0 nr
    have hb1 := hSW.1.cell br1 nr
    have hb2 := hSW.1.cell br2 nr
    have hc0 := hSW.1.cell cr0 nr
    have hc1 := hSW.1.cell cr1 nr
    have hc2 := hSW.1.cell cr2 nr
    go_simp
    try with_reducible rfl
  try simp only [Act.put, List.setIfInBounds_toArray, List.set_cons_zero, List.set_cons_succ]
  refine take_at (i := 6) (d := 11) (v := ?_) rfl rfl (by kernel_rfl) (by kernel_rfl) (by kernel_rfl) (fun _ _ _ h => h) (Or.inl ⟨by rfl, ?_⟩) (by assumption) ?_
  rotate_left
  · intro W hSW
    try dsimp only at hSW
    have ng := hSW.2
    have g1 := hSW.1.cell b1 nq
    have g2 := hSW.1.cell b2 nq
    have g3 := hSW.1.cell b3 nq
    have hb0 := hSW.1.cell br0 nr
    have hb1 := hSW.1.cell br1 nr
    have hb2 := hSW.1.cell br2 nr
    have hc0 := hSW.1.cell cr0 nr
    have hc1 := hSW.1.cell cr1 nr
    have hc2 := hSW.1.cell cr2 nr
    go_simp
    try with_reducible rfl
  try simp only [Act.put, List.setIfInBounds_toArray, List.set_cons_zero, List.set_cons_succ]
  refine take_at (i := 7) (d := 12) (v := ?_) rfl rfl (by kernel_rfl) (by kernel_rfl) (by kernel_rfl) (fun _ _ _ h => h) (Or.inl ⟨by rfl, ?_⟩) (by assumption) ?_
  rotate_left
  · intro W hSW
    try dsimp only at hSW
    have ng := hSW.2
    have g1 := hSW.1.cell b1 nq
    have g2 := hSW.1.cell b2 nq
    have g3 := hSW.1.cell b3 nq
    have hb0 := hSW.1.cell br0 nr
    have hb1 := hSW.1.cell br1 nr
    have hb2 := hSW.1.cell br2 nr
    have hc0 := hSW.1.cell cr0 nr
    have hc1 := hSW.1.cell cr1 nr
    have hc2 := hSW.1.cell cr2 nr
    go_simp
    try with_reducible rfl
  try simp only [Act.put, List.setIfInBounds_toArray, List.set_cons_zero, List.set_cons_succ]
  refine take_at (i := 8) (d := 13) (v := ?_) rfl rfl (by kernel_rfl) (by kernel_rfl) (by kernel_rfl) (fun _ _ _ h => h) (Or.inl ⟨by rfl, ?_⟩) (by assumption) ?_
  rotate_left
  · intro W hSW
    try dsimp only at hSW
    have ng := hSW.2
    have g1 := hSW.1.cell b1 nq
    have g2 := hSW.1.cell b2 nq
    have g3 := hSW.1.cell b3 nq
    have hb0 := hSW.1.cell br0 nr
    have hb1 := hSW.1.cell br1 nr
    have hb2 := hSW.1.cell br2 nr
    have hc0 := hSW.1.cell cr0 nr
    have hc1 := hSW.1.cell cr1 nr
    have hc2 := hSW.1.cell cr2 nr
    go_simp
    try with_reducible rfl
  try simp only [Act.put, List.setIfInBounds_toArray, List.set_cons_zero, List.set_cons_succ]
  refine take_at (i := 9) (d := 14) (v := ?_) rfl rfl (by kernel_rfl) (by kernel_rfl) (by kernel_rfl) (fun _ _ _ h => h) (Or.inl ⟨by rfl, ?_⟩) (by assumption) ?_
  rotate_left
  · intro W hSW
    try dsimp only at hSW
    have ng := hSW.2
    have g1 := hSW.1.cell b1 nq
    have g2 := hSW.1.cell b2 nq
    have g3 := hSW.1.cell b3 nq
    have hb0 := hSW.1.cell br0 nr
    have hb1 := hSW.1.cell br1 nr
    have hb2 := hSW.1.cell br2 nr
    have hc0 := hSW.1.cell cr0 nr
    have hc1 := hSW.1.cell cr1 nr
    have hc2 := hSW.1.cell cr2 nr
    go_simp
    try with_reducible rfl
  try simp only [Act.put, List.setIfInBounds_toArray, List.set_cons_zero, List.set_cons_succ]
  refine take_at (i := 10) (d := 15) (v := ?_) rfl rfl (by kernel_rfl) (by kernel_rfl) (by kernel_rfl) (fun _ _ _ h => h) (Or.inl ⟨by rfl, ?_⟩) (by assumption) ?_
  rotate_left
  · intro W hSW
    try dsimp only at hSW
    have ng := hSW.2
    have g1 := hSW.1.cell b1 nq
    have g2 := hSW.1.cell b2 nq
    have g3 := hSW.1.cell b3 nq
    have hb0 := hSW.1.cell br0 nr
    have hb1 := hSW.1.cell br1 nr
    have hb2 := hSW.1.cell br2 nr
    have hc0 := hSW.1.cell cr0 nr
    have hc1 := hSW.1.cell cr1 nr
    have hc2 := hSW.1.cell cr2 nr
    go_simp
    try with_reducible rfl
  try simp only [Act.put, List.setIfInBounds_toArray, List.set_cons_zero, List.set_cons_succ]
  refine take_at (i := 11) (d := 16) (v := ?_) rfl rfl (by kernel_rfl) (by kernel_rfl) (by kernel_rfl) (fun _ _ _ h => h) (Or.inl ⟨by rfl, ?_⟩) (by assumption) ?_
  rotate_left
  · intro W hSW
    try dsimp only at hSW
    have ng := hSW.2
    have g1 := hSW.1.cell b1 nq
    have g2 := hSW.1.cell b2 nq
    have g3 := hSW.1.cell b3 nq
    have hb0 := hSW.1.cell br0 nr
    have hb1 := hSW.1.cell br1 nr
    have hb2 := hSW.1.cell br2 nr
    have hc0 := hSW.1.cell cr0 nr
    have hc1 := hSW.1.cell cr1 nr
    have hc2 := hSW.1.cell cr2 nr
    go_simp
    try with_reducible rfl
  try simp only [Act.put, List.setIfInBounds_toArray, List.set_cons_zero, List.set_cons_succ]
  refine take_at (i := 12) (d := 17) (v := ?_) rfl rfl (by kernel_rfl) (by kernel_rfl) (by kernel_rfl) (fun _ _ _ h => h) (Or.inl ⟨by rfl, ?_⟩) (by assumption) ?_
  rotate_left
  · intro W hSW
    try dsimp only at hSW
    have ng := hSW.2
    have g1 := hSW.1.cell b1 nq
    have g2 := hSW.1.cell b2 nq
    have g3 := hSW.1.cell b3 nq
    have hb0 := hSW.1.cell br0 nr
    have hb1 := hSW.1.cell br1 nr
    have hb2 := hSW.1.cell br2 nr
    have hc0 := hSW.1.cell cr0 nr
    have hc1 := hSW.1.cell cr1 nr
    have hc2 := hSW.1.cell cr2 nr
    go_simp
    try with_reducible rfl
  try simp only [Act.put, List.setIfInBounds_toArray, List.set_cons_zero, List.set_cons_succ]
  refine take_at (i := 13) (d := 18) (v := ?_) rfl rfl (by kernel_rfl) (by kernel_rfl) (by kernel_rfl) (fun _ _ _ h => h) (Or.inl ⟨by rfl, ?_⟩) (by assumption) ?_
  rotate_left
  · intro W hSW
    try dsimp only at hSW
    have ng := hSW.2
    have g1 := hSW.1.cell b1 nq
    have g2 := hSW.1.cell b2 nq
    have g3 := hSW.1.cell b3 nq
    have hb0 := hSW.1.cell br0 nr
    have hb1 := hSW.1.cell br1 nr
    have hb2 := hSW.1.cell br2 nr
    have hc0 := hSW.1.cell cr0 nr
    have hc1 := hSW.1.cell cr1 nr
    have hc2 := hSW.1.cell cr2 nr
    go_simp
    try with_reducible rfl
  try simp only [Act.put, List.setIfInBounds_toArray, List.set_cons_zero, List.set_cons_succ]
  refine take_at (i := 14) (d := 19) (v := ?_) rfl rfl (by kernel_rfl) (by kernel_rfl) (by kernel_rfl) (fun _ _ _ h => h) (Or.inl ⟨by rfl, ?_⟩) (by assumption) ?_
  rotate_left
  · intro W hSW
    try dsimp only at hSW
    have ng := hSW.2
    have g1 := hSW.1.cell b1 nq
    have g2 := hSW.1.cell b2 nq
    have g3 := hSW.1.cell b3 nq
    have hb0 := hSW.1.cell br0 nr
    have hb1 := hSW.1.cell br1 nr
    have hb2 := hSW.1.cell br2 nr
    have hc0 := hSW.1.cell cr0 nr
    have hc1 := hSW.1.cell cr1 nr
    have hc2 := hSW.1.cell cr2 nr
    go_simp
    try with_reducible rfl
  try simp only [Act.put, List.setIfInBounds_toArray, List.set_cons_zero, List.set_cons_succ]
  refine take_at (i := 15) (d := 20) (v := ?_) rfl rfl (by kernel_rfl) (by kernel_rfl) (by kernel_rfl) (fun _ _ _ h => h) (Or.inl ⟨by rfl, ?_⟩) (by assumption) ?_
  rotate_left
  · intro W hSW
    try dsimp only at hSW
    have ng := hSW.2
    have g1 := hSW.1.cell b1 nq
    have g2 := hSW.1.cell b2 nq
    have g3 := hSW.1.cell b3 nq
    have hb0 := hSW.1.cell br0 nr
    have hb1 := hSW.1.cell br1 nr
    have hb2 := hSW.1.cell br2 nr
    have hc0 := hSW.1.cell cr0 nr
    have hc1 := hSW.1.cell cr1 nr
    have hc2 := hSW.1.cell cr2 nr
    go_simp
    try with_reducible rfl
  try simp only [Act.put, List.setIfInBounds_toArray, List.set_cons_zero, List.set_cons_succ]
  refine take_at (i := 16) (d := 21) (v := ?_) rfl rfl (by kernel_rfl) (by kernel_rfl) (by kernel_rfl) (fun _ _ _ h => h) (Or.inl ⟨by rfl, ?_⟩) (by assumption) ?_
  rotate_left
  · intro W hSW
    try dsimp only at hSW
    have ng := hSW.2
    have g1 := hSW.1.cell b1 nq
    have g2 := hSW.1.cell b2 nq
    have g3 := hSW.1.cell b3 nq
    have hb0 := hSW.1.cell br0 nr
    have hb1 := hSW.1.cell br1 nr
    have hb2 := hSW.1.cell br2 nr
    have hc0 := hSW.1.cell cr0 nr
    have hc1 := hSW.1.cell cr1 nr
    have hc2 := hSW.1.cell cr2 nr
    go_simp
    try with_reducible rfl
  try simp only [Act.put, List.setIfInBounds_toArray, List.set_cons_zero, List.set_cons_succ]
  refine take_at (i := 17) (d := 22) (v := ?_) rfl rfl (by kernel_rfl) (by kernel_rfl) (by kernel_rfl) (fun _ _ _ h => h) (Or.inl ⟨by rfl, ?_⟩) (by assumption) ?_
  rotate_left
  · intro W hSW
    try dsimp only at hSW
    have ng := hSW.2
    have g1 := hSW.1.cell b1 nq
    have g2 := hSW.1.cell b2 nq
    have g3 := hSW.1.cell b3 nq
    have hb0 := hSW.1.cell br0 nr
    have hb1 := hSW.1.cell br1 nr
    have hb2 := hSW.1.cell br2 nr
    have hc0 := hSW.1.cell cr0 nr
    have hc1 := hSW.1.cell cr1 nr
    have hc2 := hSW.1.cell cr2 nr
    go_simp
    try with_reducible rfl
  try simp only [Act.put, List.setIfInBounds_toArray, List.set_cons_zero, List.set_cons_succ]
  refine take_at (i := 18) (d := 23) (v := ?_) rfl rfl (by kernel_rfl) (by kernel_rfl) (by kernel_rfl) (fun _ _ _ h => h) (Or.inl ⟨by rfl, ?_⟩) (by assumption) ?_
  rotate_left
  · intro W hSW
    try dsimp only at hSW
    have ng := hSW.2
    have g1 := hSW.1.cell b1 nq
    have g2 := hSW.1.cell b2 nq
    have g3 := hSW.1.cell b3 nq
    have hb0 := hSW.1.cell br0 nr
    have hb1 := hSW.1.cell br1 nr
    have hb2 := hSW.1.cell br2 nr
    have hc0 := hSW.1.cell cr0 nr
    have hc1 := hSW.1.cell cr1 nr
    have hc2 := hSW.1.cell cr2 nr
    go_simp
    try with_reducible rfl
  try simp only [Act.put, List.setIfInBounds_toArray, List.set_cons_zero, List.set_cons_succ]
  refine take_at (i := 19) (d := 24) (v := ?_) rfl rfl (by kernel_rfl) (by kernel_rfl) (by kernel_rfl) (fun _ _ _ h => h) (Or.inl ⟨by rfl, ?_⟩) (by assumption) ?_
  rotate_left
  · intro W hSW
    try dsimp only at hSW
    have ng := hSW.2
    have g1 := hSW.1.cell b1 nq
    have g2 := hSW.1.cell b2 nq
    have g3 := hSW.1.cell b3 nq
    have hb0 := hSW.1.cell br0 nr
    have hb1 := hSW.1.cell br1 nr
    have hb2 := hSW.1.cell br2 nr
    have hc0 := hSW.1.cell cr0 nr
    have hc1 := hSW.1.cell cr1 nr
    have hc2 := hSW.1.cell cr2 nr
    go_simp
    try with_reducible rfl
  try simp only [Act.put, List.setIfInBounds_toArray, List.set_cons_zero, List.set_cons_succ]
  refine take_at (i := 20) (d := 25) (v := ?_) rfl rfl (by kernel_rfl) (by kernel_rfl) (by kernel_rfl) (fun _ _ _ h => h) (Or.inl ⟨by rfl, ?_⟩) (by assumption) ?_
  rotate_left
  · intro W hSW
    try dsimp only at hSW
    have ng := hSW.2
    have g1 := hSW.1.cell b1 nq
    have g2 := hSW.1.cell b2 nq
    have g3 := hSW.1.cell b3 nq
    have hb0 := hSW.1.cell br0 nr
    have hb1 := hSW.1.cell br1 nr
    have hb2 := hSW.1.cell br2 nr
    have hc0 := hSW.1.cell cr0 nr
    have hc1 := hSW.1.cell cr1 nr
    have hc2 := hSW.1.cell cr2 nr
    go_simp
    try with_reducible rfl
  try simp only [Act.put, List.setIfInBounds_toArray, List.set_cons_zero, List.set_cons_succ]
  refine take_at (i := 21) (d := 26) (v := ?_) rfl rfl (by kernel_rfl) (by kernel_rfl) (by kernel_rfl) (fun _ _ _ h => h) (Or.inl ⟨by rfl, ?_⟩) (by assumption) ?_
  rotate_left
  · intro W hSW
    try dsimp only at hSW
    have ng := hSW.2
    have g1 := hSW.1.cell b1 nq
    have g2 := hSW.1.cell b2 nq
    have g3 := hSW.1.cell b3 nq
    have hb0 := hSW.1.cell br0 nr
    have hb1 := hSW.1.cell br1 nr
    have hb2 := hSW.1.cell br2 nr
    have hc0 := hSW.1.cell cr0 nr
    have hc1 := hSW.1.cell cr1 nr
    have hc2 := hSW.1.cell cr2 nr
    go_simp
    try with_reducible rfl
  try simp only [Act.put, List.setIfInBounds_toArray, List.set_cons_zero, List.set_cons_succ]
  refine take_at (i := 22) (d := 27) (v := ?_) rfl rfl (by kernel_rfl) (by kernel_rfl) (by kernel_rfl) (fun _ _ _ h => h) (Or.inl ⟨by rfl, ?_⟩) (by assumption) ?_
  rotate_left
  · intro W hSW
    try dsimp only at hSW
    have ng := hSW.2
    have g1 := hSW.1.cell b1 nq
    have g2 := hSW.1.cell b2 nq
    have g3 := hSW.1.cell b3 nq
    have hb0 := hSW.1.cell br0 nr
    have hb1 := hSW.1.cell br1 nr
    have hb2 := hSW.1.cell br2 nr
    have hc0 := hSW.1.cell cr0 nr
    have hc1 := hSW.1.cell cr1 nr
    have hc2 := hSW.1.cell cr2 nr
    go_simp
    try with_reducible rfl
  try simp only [Act.put, List.setIfInBounds_toArray, List.set_cons_zero, List.set_cons_succ]
  refine take_at (i := 23) (d := 28) (v := ?_) rfl rfl (by kernel_rfl) (by kernel_rfl) (by kernel_rfl) (fun _ _ _ h => h) (Or.inl ⟨by rfl, ?_⟩) (by assumption) ?_
  rotate_left
  · intro W hSW
    try dsimp only at hSW
    have ng := hSW.2
    have g1 := hSW.1.cell b1 nq
    have g2 := hSW.1.cell b2 nq
    have g3 := hSW.1.cell b3 nq
    have hb0 := hSW.1.cell br0 nr
    have hb1 := hSW.1.cell br1 nr
    have hb2 := hSW.1.cell br2 nr
    have hc0 := hSW.1.cell cr0 nr
    have hc1 := hSW.1.cell cr1 nr
    have hc2 := hSW.1.cell cr2 nr
    go_simp
    try with_reducible rfl
  try simp only [Act.put, List.setIfInBounds_toArray, List.set_cons_zero, List.set_cons_succ]
  refine take_at (i := 24) (d := 29) (v := ?_) rfl rfl (by kernel_rfl) (by kernel_rfl) (by kernel_rfl) (fun _ _ _ h => h) (Or.inl ⟨by rfl, ?_⟩) (by assumption) ?_
  rotate_left
  · intro W hSW
    try dsimp only at hSW
    have ng := hSW.2
    have g1 := hSW.1.cell b1 nq
    have g2 := hSW.1.cell b2 nq
    have g3 := hSW.1.cell b3 nq
    have hb0 := hSW.1.cell br0 nr
    have hb1 := hSW.1.cell br1 nr
    have hb2 := hSW.1.cell br2 nr
    have hc0 := hSW.1.cell cr0 nr
    have hc1 := hSW.1.cell cr1 nr
    have hc2 := hSW.1.cell cr2 nr
    go_simp
    try with_reducible rfl
  try simp only [Act.put, List.setIfInBounds_toArray, List.set_cons_zero, List.set_cons_succ]
  refine wpAnyH_ready (rs := [5, 25]) (by kernel_rfl) (by simp) ?_
  refine AllReadyH.cons rfl (fun K hK => ?_) ?_
  · go_simp
    refine hK.out _ _ (⟨Kp.drew _ _, t2⟩) (fun hHeld => ?_)
    clear hK K
    try simp only [Act.put, List.setIfInBounds_toArray, List.set_cons_zero, List.set_cons_succ]
    refine wpAnyH_ready (rs := [25]) (by kernel_rfl) (by simp) ?_
    refine AllReadyH.cons rfl (fun K hK => ?_) ?_
    · go_simp
      refine hK.out _ _ (⟨(Kp.drew _ _).then (Kp.alloc _ _ _), a2⟩) (fun hHeld => ?_)
      clear hK K
      try simp only [Act.put, List.setIfInBounds_toArray, List.set_cons_zero, List.set_cons_succ]
      refine wpAnyH_ready (rs := [26]) (by kernel_rfl) (by simp) ?_
      refine AllReadyH.cons rfl (fun K hK => ?_) ?_
      · refine hstep_app 31 (by rfl) (by rfl) (.tmp 10) (.tmp 30) 28 28 28 (by rfl) (by rfl) kv (.slice (some ⟨W.heap.size, 0, none⟩) 1 1) (by rfl) (by rfl) hrun ?_
        refine hK.out _ _ (⟨((Kp.drew _ _).then (Kp.alloc _ _ _)).then (Kp.ofGrown hg5 (fun k e _ => .inr e)), x2⟩) (fun hHeld => ?_)
        clear hK K
        try simp only [Act.put, List.setIfInBounds_toArray, List.set_cons_zero, List.set_cons_succ]
        refine take_at (i := 27) (d := 32) (v := ?_) rfl rfl (by kernel_rfl) (by kernel_rfl) (by kernel_rfl) (fun _ _ _ h => h) (Or.inl ⟨by rfl, ?_⟩) (by assumption) ?_
        rotate_left
        · intro W hSW
          try dsimp only at hSW
          go_simp
          try with_reducible rfl
        try simp only [Act.put, List.setIfInBounds_toArray, List.set_cons_zero, List.set_cons_succ]
        refine take_at (i := 28) (d := 33) (v := ?_) rfl rfl (by kernel_rfl) (by kernel_rfl) (by kernel_rfl) (fun _ _ _ h => h) (Or.inl ⟨by rfl, ?_⟩) (by assumption) ?_
        rotate_left
        · intro W hSW
          try dsimp only at hSW
          go_simp
          try with_reducible rfl
        try simp only [Act.put, List.setIfInBounds_toArray, List.set_cons_zero, List.set_cons_succ]
        refine take_at (i := 29) (d := 34) (v := ?_) rfl rfl (by kernel_rfl) (by kernel_rfl) (by kernel_rfl) (fun _ _ _ h => h) (Or.inl ⟨by rfl, ?_⟩) (by assumption) ?_
        rotate_left
        · intro W hSW
          try dsimp only at hSW
          go_simp
          try with_reducible rfl
        try simp only [Act.put, List.setIfInBounds_toArray, List.set_cons_zero, List.set_cons_succ]
        refine wpAnyH_ready (rs := [30]) (by kernel_rfl) (by simp) ?_
        refine AllReadyH.cons rfl (fun K hK => ?_) ?_
        · go_simp
          refine hK.out _ _ (⟨(((Kp.drew _ _).then (Kp.alloc _ _ _)).then (Kp.ofGrown hg5 (fun k e _ => .inr e))).then (Kp.setCell w5 g 5 _ (.inl rfl)), HP.out.tb.c2⟩) (fun hHeld => ?_)
          clear hK K
          try simp only [Act.put, List.setIfInBounds_toArray, List.set_cons_zero, List.set_cons_succ]
          refine wpAnyH_done (by kernel_rfl) ?_ _
          have c5 := HP.out.tb.c5
          generalize w5.setCell ⟨g, 5, none⟩ (.slice (some ⟨pr, 0, none⟩) N pcap) = W6 at *
          by_cases hs : S.ki.length + 1 ≤ 2
          · have hz : (N : Int) ≤ 2 := by have := HN.out; omega
            have e := HR.out
            rw [if_pos hs] at e
            subst e
            go_wp2
            go_ret
            exact DP.go HP.out HK5.out
          · have hz : ¬ (N : Int) ≤ 2 := by have := HN.out; omega
            have e := HR.out
            rw [if_neg hs] at e
            subst e
            go_wp2
            go_ret
            exact DP.bad HK5.out
        exact AllReadyH.nil
      exact AllReadyH.nil
    exact AllReadyH.nil
  refine AllReadyH.cons rfl (fun K hK => ?_) ?_
  · go_simp
    refine hK.out _ _ (⟨(Kp.drew _ _).then (Kp.alloc _ _ _), a2⟩) (fun hHeld => ?_)
    clear hK K
    try simp only [Act.put, List.setIfInBounds_toArray, List.set_cons_zero, List.set_cons_succ]
    refine wpAnyH_ready (rs := [5]) (by kernel_rfl) (by simp) ?_
    refine AllReadyH.cons rfl (fun K hK => ?_) ?_
    · go_simp
      refine hK.out _ _ (⟨(Kp.drew _ _).then (Kp.alloc _ _ _), a2⟩) (fun hHeld => ?_)
      clear hK K
      try simp only [Act.put, List.setIfInBounds_toArray, List.set_cons_zero, List.set_cons_succ]
      refine wpAnyH_ready (rs := [26]) (by kernel_rfl) (by simp) ?_
      refine AllReadyH.cons rfl (fun K hK => ?_) ?_
      · refine hstep_app 31 (by rfl) (by rfl) (.tmp 10) (.tmp 30) 28 28 28 (by rfl) (by rfl) kv (.slice (some ⟨W.heap.size, 0, none⟩) 1 1) (by rfl) (by rfl) hrun ?_
        refine hK.out _ _ (⟨((Kp.drew _ _).then (Kp.alloc _ _ _)).then (Kp.ofGrown hg5 (fun k e _ => .inr e)), x2⟩) (fun hHeld => ?_)
        clear hK K
        try simp only [Act.put, List.setIfInBounds_toArray, List.set_cons_zero, List.set_cons_succ]
        refine take_at (i := 27) (d := 32) (v := ?_) rfl rfl (by kernel_rfl) (by kernel_rfl) (by kernel_rfl) (fun _ _ _ h => h) (Or.inl ⟨by rfl, ?_⟩) (by assumption) ?_
        rotate_left
        · intro W hSW
          try dsimp only at hSW
          go_simp
          try with_reducible rfl
        try simp only [Act.put, List.setIfInBounds_toArray, List.set_cons_zero, List.set_cons_succ]
        refine take_at (i := 28) (d := 33) (v := ?_) rfl rfl (by kernel_rfl) (by kernel_rfl) (by kernel_rfl) (fun _ _ _ h => h) (Or.inl ⟨by rfl, ?_⟩) (by assumption) ?_
        rotate_left
        · intro W hSW
          try dsimp only at hSW
          go_simp
          try with_reducible rfl
        try simp only [Act.put, List.setIfInBounds_toArray, List.set_cons_zero, List.set_cons_succ]
        refine take_at (i := 29) (d := 34) (v := ?_) rfl rfl (by kernel_rfl) (by kernel_rfl) (by kernel_rfl) (fun _ _ _ h => h) (Or.inl ⟨by rfl, ?_⟩) (by assumption) ?_
        rotate_left
        · intro W hSW
          try dsimp only at hSW
          go_simp
          try with_reducible rfl
        try simp only [Act.put, List.setIfInBounds_toArray, List.set_cons_zero, List.set_cons_succ]
        refine wpAnyH_ready (rs := [30]) (by kernel_rfl) (by simp) ?_
        refine AllReadyH.cons rfl (fun K hK => ?_) ?_
        · go_simp
          refine hK.out _ _ (⟨(((Kp.drew _ _).then (Kp.alloc _ _ _)).then (Kp.ofGrown hg5 (fun k e _ => .inr e))).then (Kp.setCell w5 g 5 _ (.inl rfl)), HP.out.tb.c2⟩) (fun hHeld => ?_)
          clear hK K
          try simp only [Act.put, List.setIfInBounds_toArray, List.set_cons_zero, List.set_cons_succ]
          refine wpAnyH_done (by kernel_rfl) ?_ _
          have c5 := HP.out.tb.c5
          generalize w5.setCell ⟨g, 5, none⟩ (.slice (some ⟨pr, 0, none⟩) N pcap) = W6 at *
          by_cases hs : S.ki.length + 1 ≤ 2
          · have hz : (N : Int) ≤ 2 := by have := HN.out; omega
            have e := HR.out
            rw [if_pos hs] at e
            subst e
            go_wp2
            go_ret
            exact DP.go HP.out HK5.out
          · have hz : ¬ (N : Int) ≤ 2 := by have := HN.out; omega
            have e := HR.out
            rw [if_neg hs] at e
            subst e
            go_wp2
            go_ret
            exact DP.bad HK5.out
        exact AllReadyH.nil
      exact AllReadyH.nil
    exact AllReadyH.nil
  exact AllReadyH.nil

end Go.Proofs.YtpoahegccjgnjaaGreatDoor
