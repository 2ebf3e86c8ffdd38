/- Contract, over the turned program: messages up to a number go. Conditions: those that each theorem states. -/
import Derived.Test.YtamgnpmkmlhadaaOBeh
namespace Go.Proofs.Ytamgnpmkmlhadaa
open Go Go.RowKit
set_option linter.unusedVariables false

/-- A box behind a call: its mark and its messages. -/
def Nx (p : Nat) (g : Option Nat) (a : Nat) (l : List Ms) (w w' : World) : Prop := ∃ v' g', Bx w' p v' g' a l ∧ Kp (Ft p g) w w' ∧ ∀ k, g' = some k → g = some k ∨ w.heap.size ≤ k
theorem Nx.same {w : World} {p : Nat} {v : Value} {g : Option Nat} {a : Nat} {l : List Ms} (h : Bx w p v g a l) : Nx p g a l w w := ⟨v, g, h, Kp.refl _ _, fun k e => .inl e⟩
theorem Nx.then {w w1 w2 : World} {p : Nat} {g : Option Nat} {a : Nat} {l : List Ms} (h : Nx p g a l w w1) (hk : Kp none' w1 w2) : Nx p g a l w w2 := by
  obtain ⟨v', g', hb, h1, h2⟩ := h
  exact ⟨v', g', hb.keptN hk, h1.thenN hk, h2⟩
theorem Nx.from {w w1 w2 : World} {p : Nat} {g : Option Nat} {a : Nat} {l : List Ms} (hk : Kp none' w w1) (h : Nx p g a l w1 w2) : Nx p g a l w w2 := by
  obtain ⟨v', g', hb, h1, h2⟩ := h
  have := hk.size
  exact ⟨v', g', hb, hk.nThen h1, fun k e => (h2 k e).imp id (fun h => by omega)⟩
/-- The mark, and what is there, behind an acknowledgement that may be. -/
def aM (a : Nat) (z : Int) : Nat := (max z a).toNat
def aL (a : Nat) (l : List Ms) (z : Int) : List Ms := l.drop (max z a - a).toNat
theorem ack_end {w w1 : World} {p b : Nat} {v v1 : Value} {g1 : Option Nat} {a n : Nat} {l : List Ms} (h : Bx w p v (some b) a l) (hk : Kp (fun k => k = b) w w1) (ho : OwO w1 v1 (l.drop n) g1) (hg : ∀ k, g1 = some k → k = b ∨ w.heap.size ≤ k) (hn : n ≤ l.length) :
    Nx p (some b) (a + n) (l.drop n) w ((w1.setCell ⟨p, 1, none⟩ v1).setCell ⟨p, 0, none⟩ (.int .i64 ((a + n : Nat) : Int))) := by
  have hbp := h.ne b rfl
  have hp1 : w1.heap[p]? = some (.cells #[.int .i64 a, v] 73 (0, 0)) := by rw [hk.block p h.lt (fun e => hbp e.symm)]; exact h.hp
  have h1 := heap_setCell_same w1 p 1 _ 73 v1 hp1
  have h2 := heap_setCell_same _ p 0 _ 73 (.int .i64 ((a + n : Nat) : Int)) h1
  have k2 : Kp (fun k => k = p) w1 ((w1.setCell ⟨p, 1, none⟩ v1).setCell ⟨p, 0, none⟩ (.int .i64 ((a + n : Nat) : Int))) := (Kp.setCell (S := fun k => k = p) w1 p 1 v1 rfl).then (Kp.setCell _ p 0 _ rfl)
  have hne : ∀ k, g1 = some k → k ≠ p := fun k e ep => by
    rcases hg k e with h3 | h3
    · exact hbp (h3 ▸ ep)
    · have := h.lt; omega
  refine ⟨v1, g1, ⟨h2, ho.kept k2 hne, hne, h.rw.drop n, ?_⟩, hk.trans k2 (fun k _ e => .inr (by rw [e])) (fun k _ e => .inl e), fun k e => ?_⟩
  · have := h.sm
    rw [List.length_drop]
    omega
  · rcases hg k e with h3 | h3
    · exact .inl (by rw [h3])
    · exact .inr h3
/-- What the messages that are left come to, in a box. -/
def AckS (w : World) (p b a : Nat) (l : List Ms) (e : Ending) (w' : World) : Prop := ∃ xa xn xc, e = .returned (.slice xa xn xc) ∧ (∃ x, w'.cell? ⟨p, 1, none⟩ = some x) ∧ (∃ x, w'.cell? ⟨p, 0, none⟩ = some x) ∧ w'.frozen? ⟨p, 1, none⟩ = false ∧ w'.frozen? ⟨p, 0, none⟩ = false ∧ Kp (fun k => k = p ∨ k = b) w w' ∧ Nx p (some b) a l w ((w'.setCell ⟨p, 1, none⟩ (.slice xa xn xc)).setCell ⟨p, 0, none⟩ (.int .i64 (a : Int)))
theorem take_ato {P : Program} {md : Region.Mode} {ops : Array Oper} {Q : Exit → Act → World → Prop} {S : World → Prop} {i d : Nat} {oi : Oper} {v : Value} {fuel : Nat} {listed : Array Bool} {a : Act} {w : World} (hi : ops[i]? = some oi) (hd : oi.dst = some d)
    (hs : Region.noSelect ops = true) (hf : Region.free md ops listed i = true) (hr : (Region.ready md ops listed).contains i = true)
    (hQ : ∀ c a w, Q (.panic c) (a.put oi.dst v) w → Q (.panic c) a w) (hy : YieldsIf P ops S oi v a) (hS : S w)
    (h : wpAnyH P md ops Q S fuel (listed.setIfInBounds i true) (a.put (some d) v) w) : wpAnyH P md ops Q S (fuel + 1) listed a w :=
  wpAnyH_take hi hs hf hr hQ hy hS (by rw [hd]; exact h)
def ackE (a : Nat) (l : List Ms) (z : Int) : Int := if (a : Int) + (l.length : Int) < z then 7 else 0
set_option maxRecDepth 100000 in
set_option maxHeartbeats 4000000 in
theorem oack_no {p : Nat} {v : Value} {g : Option Nat} {a : Nat} {l : List Ms} (z : Int) (w : World) (h : Bx w p v g a l) (hz : ir z) (hz2 : (a : Int) + (l.length : Int) < z) : Calls Try.prog 18 #[.pointer (some ⟨p, 0, none⟩), .int .i64 z] w fun e w' => e = .returned (.int .i64 7) ∧ w' = w := by
  have hl := hide (olast_any w h)
  clear h
  go_enter Try.func18, Try.ntmps18
  go_wp2_with (go_at_call 24; refine hl.out.mono ?_; rintro e w1 ⟨rfl, rfl⟩)
  go_ret
  exact ⟨rfl, rfl⟩
set_option maxRecDepth 100000 in
set_option maxHeartbeats 4000000 in
theorem oack_old {p : Nat} {v : Value} {g : Option Nat} {a : Nat} {l : List Ms} (z : Int) (w : World) (h : Bx w p v g a l) (hz : ir z) (hz2 : z ≤ a) : Calls Try.prog 18 #[.pointer (some ⟨p, 0, none⟩), .int .i64 z] w fun e w' => e = .returned (.int .i64 0) ∧ w' = w := by
  have hl := hide (olast_any w h)
  have c0 := h.c0
  have c1 : ¬ (a : Int) + (l.length : Int) < z := by omega
  have c2 : ¬ (a : Int) < z := by omega
  clear h
  go_enter Try.func18, Try.ntmps18
  go_wp2_with (go_at_call 24; refine hl.out.mono ?_; rintro e w1 ⟨rfl, rfl⟩)
  go_ret
  exact ⟨rfl, rfl⟩
set_option maxRecDepth 100000 in
set_option maxHeartbeats 400000 in
theorem oack_new {p : Nat} {v : Value} {g : Option Nat} {a : Nat} {l : List Ms} (n : Nat) (w : World) (h : Bx w p v g a l) (h0 : 0 < n) (hn : n ≤ l.length) : Calls Try.prog 18 #[.pointer (some ⟨p, 0, none⟩), .int .i64 ((a + n : Nat) : Int)] w fun e w' => e = .returned (.int .i64 0) ∧ Nx p g (a + n) (l.drop n) w w' := by
  have hl := hide (olast_any w h)
  have c0 := h.c0
  have c1 := h.c1
  have f0 := h.fz 0
  have f1 := h.fz 1
  have hsm := h.sm
  have hplt := h.lt
  have hbp := h.ne
  obtain ⟨b, off, cap, rfl, rfl⟩ : ∃ b off cap, v = .slice (some ⟨b, off, none⟩) l.length cap ∧ g = some b := by
    rcases h.ow with ⟨_, rfl, _⟩ | ⟨b, off, cap, e1, e2, _⟩
    · simp at hn; omega
    · exact ⟨b, off, cap, e2, e1⟩
  have hbp := h.ne b rfl
  have HB := hide (fun W (hk : Kp none' w W) => (obehind_any b off cap n l W (h.ow.kept hk (fun _ _ h => h)) h0 hn (by omega)).mono fun e w' (hh : Lft W b (l.drop n) e w') => show AckS w p b (a + n) (l.drop n) e w' from by
    obtain ⟨v1, rfl, g1, ho, k1, hg⟩ := hh
    obtain ⟨xa, xc, rfl, _, _⟩ := ho.len
    have k2 := hk.nThen k1
    have hpb : ¬ p = b := fun e => hbp e.symm
    exact ⟨xa, _, xc, rfl, ⟨_, k2.cell c1 hpb⟩, ⟨_, k2.cell c0 hpb⟩, (k2.frozen hplt hpb).trans f1, (k2.frozen hplt hpb).trans f0, k2.mono (fun _ _ h => .inr h), ack_end h k2 ho (fun k e => by
      rcases hg k e with h3 | h3
      · exact .inl h3
      · have := hk.size; exact .inr (by omega)) hn⟩)
  have c2 : ¬ (a : Int) + (l.length : Int) < (a : Int) + (n : Int) := by omega
  have c3 : (a : Int) < (a : Int) + (n : Int) := by omega
  have c4 : (a : Int) + (n : Int) - (a : Int) = (n : Int) := by omega
  have c5 : IntKind.i64.wrap (n : Int) = (n : Int) := by rw [IntKind.wrap_i64]; omega
  have hpn : ¬ p = b := fun e => hbp e.symm
  clear h
  rw [show ((a + n : Nat) : Int) = (a : Int) + (n : Int) by omega]
  go_enter Try.func18, Try.ntmps18
  go_upto_region 6 with (go_at_call 24; refine hl.out.mono ?_; rintro e w1 ⟨rfl, rfl⟩)
  refine wp_region_held_drew (S := fun W => Kp (fun k => k = p ∨ k = b) w1 W) (by kernel_rfl) (Kp.drew _ _) (fun hHeld => ?_)
  refine take_ato (i := 0) (d := 17) (v := ?_) rfl rfl (by kernel_rfl) (by kernel_rfl) (by kernel_rfl) (fun _ _ _ h => h) (Or.inl ⟨by rfl, ?_⟩) (by assumption) ?_
  rotate_left
  · intro W hSW
    try dsimp only at hSW
    go_simp
    try with_reducible rfl
  try simp only [Act.put, List.setIfInBounds_toArray, List.set_cons_zero, List.set_cons_succ]
  refine take_ato (i := 1) (d := 18) (v := ?_) rfl rfl (by kernel_rfl) (by kernel_rfl) (by kernel_rfl) (fun _ _ _ h => h) (Or.inl ⟨by rfl, ?_⟩) (by assumption) ?_
  rotate_left
  · intro W hSW
    try dsimp only at hSW
    go_simp
    try with_reducible rfl
  try simp only [Act.put, List.setIfInBounds_toArray, List.set_cons_zero, List.set_cons_succ]
  refine take_ato (i := 2) (d := 19) (v := ?_) rfl rfl (by kernel_rfl) (by kernel_rfl) (by kernel_rfl) (fun _ _ _ h => h) (Or.inl ⟨by rfl, ?_⟩) (by assumption) ?_
  rotate_left
  · intro W hSW
    try dsimp only at hSW
    go_simp
    try with_reducible rfl
  try simp only [Act.put, List.setIfInBounds_toArray, List.set_cons_zero, List.set_cons_succ]
  refine take_ato (i := 3) (d := 20) (v := ?_) rfl rfl (by kernel_rfl) (by kernel_rfl) (by kernel_rfl) (fun _ _ _ h => h) (Or.inl ⟨by rfl, ?_⟩) (by assumption) ?_
  rotate_left
  · intro W hSW
    try dsimp only at hSW
    go_simp
    try with_reducible rfl
  try simp only [Act.put, List.setIfInBounds_toArray, List.set_cons_zero, List.set_cons_succ]
  refine take_ato (i := 5) (d := 22) (v := ?_) rfl rfl (by kernel_rfl) (by kernel_rfl) (by kernel_rfl) (fun _ _ _ h => h) (Or.inl ⟨by rfl, ?_⟩) (by assumption) ?_
  rotate_left
  · intro W hSW
    try dsimp only at hSW
    go_simp
    try with_reducible rfl
  try simp only [Act.put, List.setIfInBounds_toArray, List.set_cons_zero, List.set_cons_succ]
  refine take_ato (i := 6) (d := 23) (v := ?_) rfl rfl (by kernel_rfl) (by kernel_rfl) (by kernel_rfl) (fun _ _ _ h => h) (Or.inl ⟨by rfl, ?_⟩) (by assumption) ?_
  rotate_left
  · intro W hSW
    try dsimp only at hSW
    go_simp
    try with_reducible rfl
  try simp only [Act.put, List.setIfInBounds_toArray, List.set_cons_zero, List.set_cons_succ]
  refine take_ato (i := 7) (d := 24) (v := ?_) rfl rfl (by kernel_rfl) (by kernel_rfl) (by kernel_rfl) (fun _ _ _ h => h) (Or.inl ⟨by rfl, ?_⟩) (by assumption) ?_
  rotate_left
  · intro W hSW
    try dsimp only at hSW
    go_simp
    try with_reducible rfl
  try simp only [Act.put, List.setIfInBounds_toArray, List.set_cons_zero, List.set_cons_succ]
  refine take_ato (i := 8) (d := 25) (v := ?_) rfl rfl (by kernel_rfl) (by kernel_rfl) (by kernel_rfl) (fun _ _ _ h => h) (Or.inl ⟨by rfl, ?_⟩) (by assumption) ?_
  rotate_left
  · intro W hSW
    try dsimp only at hSW
    go_simp
    try with_reducible rfl
  try simp only [Act.put, List.setIfInBounds_toArray, List.set_cons_zero, List.set_cons_succ]
  refine wpAnyH_ready (rs := [4, 9]) (by kernel_rfl) (by simp) ?_
  refine AllReadyH.cons rfl (fun K hK => ?_) ?_
  · go_simp
    refine hK.out _ _ (Kp.drew _ _) (fun hHeld => ?_)
    clear hK K
    try simp only [Act.put, List.setIfInBounds_toArray, List.set_cons_zero, List.set_cons_succ]
    refine wpAnyH_ready (rs := [9]) (by kernel_rfl) (by simp) ?_
    refine AllReadyH.cons rfl (fun K hK => ?_) ?_
    · go_simp
      refine hK.out _ _ (Kp.drew _ _) (fun hHeld => ?_)
      clear hK K
      try simp only [Act.put, List.setIfInBounds_toArray, List.set_cons_zero, List.set_cons_succ]
      refine take_ato (i := 10) (d := 27) (v := ?_) rfl rfl (by kernel_rfl) (by kernel_rfl) (by kernel_rfl) (fun _ _ _ h => h) (Or.inl ⟨by rfl, ?_⟩) (by assumption) ?_
      rotate_left
      · intro W hSW
        try dsimp only at hSW
        go_simp
        try with_reducible rfl
      try simp only [Act.put, List.setIfInBounds_toArray, List.set_cons_zero, List.set_cons_succ]
      refine wpAnyH_ready (rs := [11]) (by kernel_rfl) (by simp) ?_
      refine AllReadyH.cons rfl (fun K hK => ?_) ?_
      · go_simp
        try rw [c5]
        go_wp2_with (go_at_call 38; refine (HB.out _ (Kp.drew _ _)).mono ?_; clear HB; rintro e w2 ⟨xa, xn, xc, rfl, ⟨x1, d1⟩, ⟨x0, d0⟩, z1, z0, kQ, hN⟩; have hN := hide hN)
        refine hK.out _ _ (kQ) (fun hHeld => ?_)
        clear hK K
        try simp only [Act.put, List.setIfInBounds_toArray, List.set_cons_zero, List.set_cons_succ]
        refine take_ato (i := 12) (d := 29) (v := ?_) rfl rfl (by kernel_rfl) (by kernel_rfl) (by kernel_rfl) (fun _ _ _ h => h) (Or.inl ⟨by rfl, ?_⟩) (by assumption) ?_
        rotate_left
        · intro W hSW
          try dsimp only at hSW
          go_simp
          try with_reducible rfl
        try simp only [Act.put, List.setIfInBounds_toArray, List.set_cons_zero, List.set_cons_succ]
        refine take_ato (i := 13) (d := 30) (v := ?_) rfl rfl (by kernel_rfl) (by kernel_rfl) (by kernel_rfl) (fun _ _ _ h => h) (Or.inl ⟨by rfl, ?_⟩) (by assumption) ?_
        rotate_left
        · intro W hSW
          try dsimp only at hSW
          go_simp
          try with_reducible rfl
        try simp only [Act.put, List.setIfInBounds_toArray, List.set_cons_zero, List.set_cons_succ]
        refine wpAnyH_ready (rs := [14]) (by kernel_rfl) (by simp) ?_
        refine AllReadyH.cons rfl (fun K hK => ?_) ?_
        · go_simp
          refine hK.out _ _ (kQ.then (Kp.setCell _ _ _ _ (.inl rfl))) (fun hHeld => ?_)
          clear hK K
          try simp only [Act.put, List.setIfInBounds_toArray, List.set_cons_zero, List.set_cons_succ]
          refine wpAnyH_done (by kernel_rfl) ?_ _
          go_wp2
          go_ret
          exact ⟨rfl, hN.out⟩
        exact AllReadyH.nil
      exact AllReadyH.nil
    exact AllReadyH.nil
  refine AllReadyH.cons rfl (fun K hK => ?_) ?_
  · go_simp
    refine hK.out _ _ (Kp.drew _ _) (fun hHeld => ?_)
    clear hK K
    try simp only [Act.put, List.setIfInBounds_toArray, List.set_cons_zero, List.set_cons_succ]
    refine take_ato (i := 10) (d := 27) (v := ?_) rfl rfl (by kernel_rfl) (by kernel_rfl) (by kernel_rfl) (fun _ _ _ h => h) (Or.inl ⟨by rfl, ?_⟩) (by assumption) ?_
    rotate_left
    · intro W hSW
      try dsimp only at hSW
      go_simp
      try with_reducible rfl
    try simp only [Act.put, List.setIfInBounds_toArray, List.set_cons_zero, List.set_cons_succ]
    refine wpAnyH_ready (rs := [4]) (by kernel_rfl) (by simp) ?_
    refine AllReadyH.cons rfl (fun K hK => ?_) ?_
    · go_simp
      refine hK.out _ _ (Kp.drew _ _) (fun hHeld => ?_)
      clear hK K
      try simp only [Act.put, List.setIfInBounds_toArray, List.set_cons_zero, List.set_cons_succ]
      refine wpAnyH_ready (rs := [11]) (by kernel_rfl) (by simp) ?_
      refine AllReadyH.cons rfl (fun K hK => ?_) ?_
      · go_simp
        try rw [c5]
        go_wp2_with (go_at_call 38; refine (HB.out _ (Kp.drew _ _)).mono ?_; clear HB; rintro e w2 ⟨xa, xn, xc, rfl, ⟨x1, d1⟩, ⟨x0, d0⟩, z1, z0, kQ, hN⟩; have hN := hide hN)
        refine hK.out _ _ (kQ) (fun hHeld => ?_)
        clear hK K
        try simp only [Act.put, List.setIfInBounds_toArray, List.set_cons_zero, List.set_cons_succ]
        refine take_ato (i := 12) (d := 29) (v := ?_) rfl rfl (by kernel_rfl) (by kernel_rfl) (by kernel_rfl) (fun _ _ _ h => h) (Or.inl ⟨by rfl, ?_⟩) (by assumption) ?_
        rotate_left
        · intro W hSW
          try dsimp only at hSW
          go_simp
          try with_reducible rfl
        try simp only [Act.put, List.setIfInBounds_toArray, List.set_cons_zero, List.set_cons_succ]
        refine take_ato (i := 13) (d := 30) (v := ?_) rfl rfl (by kernel_rfl) (by kernel_rfl) (by kernel_rfl) (fun _ _ _ h => h) (Or.inl ⟨by rfl, ?_⟩) (by assumption) ?_
        rotate_left
        · intro W hSW
          try dsimp only at hSW
          go_simp
          try with_reducible rfl
        try simp only [Act.put, List.setIfInBounds_toArray, List.set_cons_zero, List.set_cons_succ]
        refine wpAnyH_ready (rs := [14]) (by kernel_rfl) (by simp) ?_
        refine AllReadyH.cons rfl (fun K hK => ?_) ?_
        · go_simp
          refine hK.out _ _ (kQ.then (Kp.setCell _ _ _ _ (.inl rfl))) (fun hHeld => ?_)
          clear hK K
          try simp only [Act.put, List.setIfInBounds_toArray, List.set_cons_zero, List.set_cons_succ]
          refine wpAnyH_done (by kernel_rfl) ?_ _
          go_wp2
          go_ret
          exact ⟨rfl, hN.out⟩
        exact AllReadyH.nil
      exact AllReadyH.nil
    exact AllReadyH.nil
  exact AllReadyH.nil

end Go.Proofs.Ytamgnpmkmlhadaa
