/- The walk of the law NodePuts. Conditions: those that the theorem states. -/
import Derived.Test.YtjmkfkmdafjgnaaNLv
import Derived.Test.YtjmkfkmdafjgnaaNRefC
import Derived.Test.YtjmkfkmdafjgnaaNRefE
import Derived.Test.YtjmkfkmdafjgnaaNRefR
import Derived.Test.YtjmkfkmdafjgnaaNOrd
namespace Go.Proofs.Ytjmkfkmdafjgnaa.nodePuts
open Go.RowKit
set_option linter.unusedVariables false

set_option maxRecDepth 100000 in
set_option maxHeartbeats 4000000 in
theorem walk (x : Value) (n : Nd) (k v : ByteArray) (w : World) (hN : Nv w.heap.size w x n) (hkm : k.size ≤ maxLen) (hvm : v.size ≤ maxLen) (hp : n.ps.length ≤ 1048576) : Calls Try.prog 5 #[x, .string k, .string v] w fun e w' => e = .returned (.bool true) ∧ w.grownBy w' none := by
  obtain ⟨a1, c1, a2, c2, a3, c3, rfl⟩ := nv_open hN
  have hb := Nb.new w n.leaf (.slice a1 n.ps.length c1) (.slice a2 n.ks.length c2) (.slice a3 n.kd.length c3)
  have hK0 : Kp none' w (w.alloc (.cells #[.bool n.leaf, .slice a1 n.ps.length c1, .slice a2 n.ks.length c2, .slice a3 n.kd.length c3] 26)) := Kp.alloc _ _ _
  have HF : Hid (∀ W : World, Kp none' w W → Calls Try.prog 16 #[.agg #[.bool n.leaf, .slice a1 n.ps.length c1, .slice a2 n.ks.length c2, .slice a3 n.kd.length c3], .string k, .string v] W fun e w' => ∃ a m c, e = .returned (.agg #[.bool true, .slice a m c, .slice none 0 0, .slice none 0 0]) ∧ OwP w' W.heap.size (.slice a m c) (n.put k v).ps ∧ Kp none' W w') := fun W hk' => put_own _ n _ k v W (hN.keptN hk') hkm hvm (by omega)
  have HC : Hid (∀ W : World, Kp none' w W → Calls Try.prog 17 #[.agg #[.bool n.leaf, .slice a1 n.ps.length c1, .slice a2 n.ks.length c2, .slice a3 n.kd.length c3], .string k] W fun e w' => ∃ a m c, e = .returned (.agg #[.bool true, .slice a m c, .slice none 0 0, .slice none 0 0]) ∧ OwP w' W.heap.size (.slice a m c) (n.cut k).ps ∧ Kp none' W w') := fun W hk' => cut_own _ n _ k W (hN.keptN hk') (by omega)
  have HN := hide hN
  have HP := hide hp
  clear hN hp
  obtain ⟨lp, Hlp⟩ : ∃ l, Hid (n.ps.length = l) := ⟨_, rfl⟩
  obtain ⟨lk, Hlk⟩ : ∃ l, Hid (n.ks.length = l) := ⟨_, rfl⟩
  obtain ⟨ld, Hld⟩ : ∃ l, Hid (n.kd.length = l) := ⟨_, rfl⟩
  obtain ⟨lf, Hlf⟩ : ∃ l, Hid (n.leaf = l) := ⟨_, rfl⟩
  rw [Hlp.out, Hlk.out, Hld.out, Hlf.out] at hb hK0 HF HC HN ⊢
  go_enter Try.func5, Try.ntmps5
  go_upto_region 3 with (first
    | (go_at_call 7; refine (lives9_any _).mono ?_; rintro e w1 ⟨rfl, hk1⟩)
    | fail)
  have b1' := hb.kept hk1 (fun h => h)
  have S1 := hK0.thenN hk1
  have f0 : ∀ W : World, Kp none' w1 W → W.cell? ⟨w.heap.size, 0, none⟩ = some (.bool lf) := fun W hk => (b1'.kept hk (fun h => h)).c0
  have f1 : ∀ W : World, Kp none' w1 W → W.cell? ⟨w.heap.size, 1, none⟩ = some (.slice a1 lp c1) := fun W hk => (b1'.kept hk (fun h => h)).c1
  have f2 : ∀ W : World, Kp none' w1 W → W.cell? ⟨w.heap.size, 2, none⟩ = some (.slice a2 lk c2) := fun W hk => (b1'.kept hk (fun h => h)).c2
  have f3 : ∀ W : World, Kp none' w1 W → W.cell? ⟨w.heap.size, 3, none⟩ = some (.slice a3 ld c3) := fun W hk => (b1'.kept hk (fun h => h)).c3
  have dr : Kp none' w1 w1.drew := Kp.drew _ _
  clear hb hk1 hK0
  go_cut [7, 8] from 15 to 73 (fun t7 t8 W => ∃ g7 g8 b1 m1 d1 b4 m4 d4, t7 = .pointer (some ⟨g7, 0, none⟩) ∧ t8 = .pointer (some ⟨g8, 0, none⟩) ∧ Nb W g7 true (.slice b1 m1 d1) (.slice none 0 0) (.slice none 0 0) ∧ Nb W g8 true (.slice b4 m4 d4) (.slice none 0 0) (.slice none 0 0) ∧ OwP W 0 (.slice b1 m1 d1) (n.put k v).ps ∧ OwP W 0 (.slice b4 m4 d4) (n.cut k).ps ∧ Kp none' w1 W)
  case rest =>
    obtain ⟨g7, g8, b1, m1, d1, b4, m4, d4, rfl, rfl, n7, n8, hP, hC, hKc⟩ := hcut
    have Sc := S1.thenN hKc
    have hwf := HN.out.wf
    have hA : Nv wc.heap.size wc (.agg #[.bool true, .slice b1 m1 d1, .slice none 0 0, .slice none 0 0]) (n.put k v) := Nv.own hP.prs (put_wf hwf k v hkm hvm)
    have hB : Nv wc.heap.size wc (.agg #[.bool true, .slice b4 m4 d4, .slice none 0 0, .slice none 0 0]) (n.cut k) := Nv.own hC.prs (cut_wf hwf k)
    clear hwf
    have bc := b1'.kept hKc (fun h => h)
    have HPa : Hid (∀ W : World, Kp none' wc W → Calls Try.prog 19 #[.agg #[.bool lf, .slice a1 lp c1, .slice a2 lk c2, .slice a3 ld c3], .string k, .string v] W fun e w' => ∃ y, e = .returned y ∧ Nv w'.heap.size w' y (n.put k v) ∧ Kp none' W w') := fun W hk => rput9_any _ n _ k v W (HN.out.keptN (Sc.thenN hk)) (Sc.thenN hk).size hkm hvm HP.out
    have HCa : Hid (∀ W : World, Kp none' wc W → Calls Try.prog 20 #[.agg #[.bool lf, .slice a1 lp c1, .slice a2 lk c2, .slice a3 ld c3], .string k] W fun e w' => ∃ y, e = .returned y ∧ Nv w'.heap.size w' y (n.cut k) ∧ Kp none' W w') := fun W hk => rcut9_any _ n _ k W (HN.out.keptN (Sc.thenN hk)) (Sc.thenN hk).size hkm HP.out
    have HSa : Hid (∀ (W : World) (x y : Value) (B : Nat), x = (.agg #[.bool true, .slice b1 m1 d1, .slice none 0 0, .slice none 0 0]) → Kp none' wc W → Nv B W y (n.put k v) → Calls Try.prog 18 #[x, y] W fun e w' => e = .returned (.bool true) ∧ Kp none' W w') := fun W x y B hx hk h => by rw [hx]; exact rsame_any _ y _ _ _ W (hA.keptN hk) h
    have HSb : Hid (∀ (W : World) (x y : Value) (B : Nat), x = (.agg #[.bool true, .slice b4 m4 d4, .slice none 0 0, .slice none 0 0]) → Kp none' wc W → Nv B W y (n.cut k) → Calls Try.prog 18 #[x, y] W fun e w' => e = .returned (.bool true) ∧ Kp none' W w') := fun W x y B hx hk h => by rw [hx]; exact rsame_any _ y _ _ _ W (hB.keptN hk) h
    have HSc : Hid (∀ (W : World) (y x : Value) (B : Nat), x = (.agg #[.bool true, .slice b4 m4 d4, .slice none 0 0, .slice none 0 0]) → Kp none' wc W → Nv B W y (n.cut k) → Calls Try.prog 18 #[y, x] W fun e w' => e = .returned (.bool true) ∧ Kp none' W w') := fun W y x B hx hk h => by rw [hx]; exact rsame_any y _ _ _ _ W h (hB.keptN hk)
    have HRi : Hid (∀ W : World, Kp none' wc W → Calls Try.prog 21 #[.agg #[.bool lf, .slice a1 lp c1, .slice a2 lk c2, .slice a3 ld c3]] W fun e w' => e = .returned (.bool n.right) ∧ Kp none' W w') := fun W hk => rright_any _ n _ W (HN.out.keptN (Sc.thenN hk)) (Sc.thenN hk).size (by have := HP.out; omega)
    have f0 : ∀ W : World, Kp none' wc W → W.cell? ⟨w.heap.size, 0, none⟩ = some (.bool lf) := fun W hk => (bc.kept hk (fun h => h)).c0
    have f1 : ∀ W : World, Kp none' wc W → W.cell? ⟨w.heap.size, 1, none⟩ = some (.slice a1 lp c1) := fun W hk => (bc.kept hk (fun h => h)).c1
    have f2 : ∀ W : World, Kp none' wc W → W.cell? ⟨w.heap.size, 2, none⟩ = some (.slice a2 lk c2) := fun W hk => (bc.kept hk (fun h => h)).c2
    have f3 : ∀ W : World, Kp none' wc W → W.cell? ⟨w.heap.size, 3, none⟩ = some (.slice a3 ld c3) := fun W hk => (bc.kept hk (fun h => h)).c3
    have p0 : ∀ W : World, Kp none' wc W → W.cell? ⟨g7, 0, none⟩ = some (.bool true) := fun W hk => (n7.kept hk (fun h => h)).c0
    have p1 : ∀ W : World, Kp none' wc W → W.cell? ⟨g7, 1, none⟩ = some (.slice b1 m1 d1) := fun W hk => (n7.kept hk (fun h => h)).c1
    have p2 : ∀ W : World, Kp none' wc W → W.cell? ⟨g7, 2, none⟩ = some (.slice none 0 0) := fun W hk => (n7.kept hk (fun h => h)).c2
    have p3 : ∀ W : World, Kp none' wc W → W.cell? ⟨g7, 3, none⟩ = some (.slice none 0 0) := fun W hk => (n7.kept hk (fun h => h)).c3
    have q0 : ∀ W : World, Kp none' wc W → W.cell? ⟨g8, 0, none⟩ = some (.bool true) := fun W hk => (n8.kept hk (fun h => h)).c0
    have q1 : ∀ W : World, Kp none' wc W → W.cell? ⟨g8, 1, none⟩ = some (.slice b4 m4 d4) := fun W hk => (n8.kept hk (fun h => h)).c1
    have q2 : ∀ W : World, Kp none' wc W → W.cell? ⟨g8, 2, none⟩ = some (.slice none 0 0) := fun W hk => (n8.kept hk (fun h => h)).c2
    have q3 : ∀ W : World, Kp none' wc W → W.cell? ⟨g8, 3, none⟩ = some (.slice none 0 0) := fun W hk => (n8.kept hk (fun h => h)).c3
    have dc : Kp none' wc wc.drew := Kp.drew _ _
    have HPo := hide hP
    have HA := hide hA
    have HB := hide hB
    clear hP hC hA hB HF HC dr S1 hKc b1'
    go_upto_region 4 with fail
    go_region_held_law (fun W => Kp none' wc W) (first | assumption | exact dc) (first
      | (go_at_call 19; refine (HPa.out _ (by assumption)).mono ?_; rintro e w2 ⟨y2, rfl, hN2, hg2⟩; have S2 : Kp none' wc w2 := Kp.thenN (by assumption) hg2)
      | (go_at_call 20; refine (HCa.out _ (by assumption)).mono ?_; rintro e w4 ⟨y4, rfl, hN4, hg4⟩; have S4 : Kp none' wc w4 := Kp.thenN (by assumption) hg4)
      | (go_at_call 18; refine (HSa.out _ _ _ _ (by with_reducible rfl) (by assumption) (by assumption)).mono ?_; rintro e w3 ⟨rfl, hg3⟩; have S3 : Kp none' wc w3 := Kp.thenN (by assumption) hg3)
      | (go_at_call 18; refine (HSb.out _ _ _ _ (by with_reducible rfl) (by assumption) (by assumption)).mono ?_; rintro e w5 ⟨rfl, hg5⟩; have S5 : Kp none' wc w5 := Kp.thenN (by assumption) hg5))
    have e0 := f0 w5 S5
    have e1 := f1 w5 S5
    have e2 := f2 w5 S5
    have e3 := f3 w5 S5
    cases hr : n.right with
    | false =>
      go_wp2_with (first
        | (go_at_call 21; refine (HRi.out _ S5).mono ?_; rintro e w6 ⟨rfl, hg6⟩; rw [hr])
        | fail)
      go_ret
      exact ⟨rfl, (Sc.thenN (S5.thenN hg6)).grown⟩
    | true =>
      obtain ⟨u1, u2, u3, u4⟩ := put_cut n (right_asc hr) k v
      obtain ⟨i, Hi⟩ : ∃ i, Hid (findN (n.put k v).ps k = i) := ⟨_, rfl⟩
      obtain ⟨j, Hj⟩ : ∃ j, Hid (findN (n.cut k).ps k = j) := ⟨_, rfl⟩
      have HFa : Hid (∀ W : World, Kp none' wc W → Calls Try.prog 12 #[.agg #[.bool true, .slice b1 m1 d1, .slice none 0 0, .slice none 0 0], .string k] W fun e w' => e = .returned (.tuple #[.int .i64 (i : Int), .bool true]) ∧ Kp none' W w') := by
        intro W hk
        have := find_any _ _ _ k W (HA.out.keptN hk)
        rw [Hi.out, u1] at this
        exact this
      have HFb : Hid (∀ W : World, Kp none' wc W → Calls Try.prog 12 #[.agg #[.bool true, .slice b4 m4 d4, .slice none 0 0, .slice none 0 0], .string k] W fun e w' => e = .returned (.tuple #[.int .i64 (j : Int), .bool false]) ∧ Kp none' W w') := by
        intro W hk
        have := find_any _ _ _ k W (HB.out.keptN hk)
        rw [Hj.out, u3] at this
        exact this
      have hpl : (n.put k v).ps.length ≤ 2097152 := by
        show (n.ps.take _ ++ [_] ++ n.ps.drop _).length ≤ _
        have := HP.out
        have hfb : findN n.ps k ≤ behind n.ps k := by unfold behind; split <;> omega
        have hfl := behind_le n.ps k
        simp only [List.length_append, List.length_take, List.length_drop, List.length_cons, List.length_nil]
        omega
      have HCb : Hid (∀ W : World, Kp none' wc W → Calls Try.prog 17 #[.agg #[.bool true, .slice b1 m1 d1, .slice none 0 0, .slice none 0 0], .string k] W fun e w' => ∃ y, e = .returned y ∧ Nv w'.heap.size w' y (n.cut k) ∧ Kp none' W w') := by
        intro W hk
        have := cut_any _ _ _ k W (HA.out.keptN hk) hpl
        rw [u4] at this
        exact this
      rw [Hi.out] at u2
      obtain ⟨hil, hie⟩ := List.getElem?_eq_some_iff.1 u2
      obtain ⟨a9, c9, e9, h9a, h9b, h9⟩ := HPo.out.prs
      cases e9
      obtain ⟨bb, oo, rfl, hx1, hx2, hcv⟩ := h9 i hil
      rw [hie] at hcv
      have r1 : ∀ W : World, Kp none' wc W → W.cell? ⟨bb, oo + i * 2 + 1, none⟩ = some (.string v) := fun W hk => hk.cell hcv (fun h => h)
      have hi1 : (i : Int) < ((n.put k v).ps.length : Int) := by omega
      obtain ⟨m1, Hm1⟩ : ∃ m, Hid ((n.put k v).ps.length = m) := ⟨_, rfl⟩
      have hil' : i < m1 := by rw [← Hm1.out]; exact hil
      rw [Hm1.out] at *
      clear hx1 hx2 u1 u2 u3 u4 hcv
      clear hie h9 h9a h9b hpl hil HPo
      have hvv : (v.toList == v.toList) = true := by simp
      go_upto_region 8 with (first
        | (go_at_call 21; refine (HRi.out _ S5).mono ?_; rintro e w6 ⟨rfl, hg6⟩; rw [hr])
        | fail)
      have S6 : Kp none' wc w6 := S5.thenN hg6
      have l0 := p0 w6 S6
      have l1 := p1 w6 S6
      have l2 := p2 w6 S6
      have l3 := p3 w6 S6
      clear e0 e1 e2 e3
      go_upto_region 9 with (first
        | (go_at_call 12; refine (HFa.out _ S6).mono ?_; rintro e w7 ⟨rfl, hg7⟩)
        | fail)
      have S7 : Kp none' wc w7 := S6.thenN hg7
      clear l0 l1 l2 l3
      have l0 := q0 w7 S7
      have l1 := q1 w7 S7
      have l2 := q2 w7 S7
      have l3 := q3 w7 S7
      go_upto_region 10 with (first
        | (go_at_call 12; refine (HFb.out _ S7).mono ?_; rintro e w8 ⟨rfl, hg8⟩)
        | fail)
      have S8 : Kp none' wc w8 := S7.thenN hg8
      have d8 : Kp none' wc w8.drew := S8.thenN (Kp.drew _ _)
      clear l0 l1 l2 l3 f0 f1 f2 f3 HRi HFa HFb HPa HCa HSa HSb
      go_region_held_law (fun W => Kp none' wc W) (first | assumption | exact d8) (first
        | (go_at_call 17; refine (HCb.out _ (by assumption)).mono ?_; rintro e w9 ⟨y9, rfl, hN9, hg9⟩; have S9 : Kp none' wc w9 := Kp.thenN (by assumption) hg9)
        | (go_at_call 18; refine (HSc.out _ _ _ _ (by with_reducible rfl) (by assumption) (by assumption)).mono ?_; rintro e w10 ⟨rfl, hg10⟩; have S10 : Kp none' wc w10 := Kp.thenN (by assumption) hg10))
      go_wp2
      go_ret
      exact ⟨by simp, (Sc.thenN S10).grown⟩
  case first =>
    refine wp_region_held_drew (S := fun W => Kp none' w1 W) (by kernel_rfl) (dr) (fun hHeld => ?_)
    refine take_at (i := 0) (d := 15) (v := ?_) rfl rfl (by kernel_rfl) (by kernel_rfl) (by kernel_rfl) (fun _ _ _ h => h) (Or.inl ⟨by rfl, ?_⟩) (by assumption) ?_
    rotate_left
    · intro W hSW
      try dsimp only at hSW
      have g0 := f0 W hSW
      have g1 := f1 W hSW
      have g2 := f2 W hSW
      have g3 := f3 W hSW
      go_simp
      try with_reducible rfl
    try simp only [Act.put, List.setIfInBounds_toArray, List.set_cons_zero, List.set_cons_succ]
    refine take_at (i := 1) (d := 16) (v := ?_) rfl rfl (by kernel_rfl) (by kernel_rfl) (by kernel_rfl) (fun _ _ _ h => h) (Or.inl ⟨by rfl, ?_⟩) (by assumption) ?_
    rotate_left
    · intro W hSW
      try dsimp only at hSW
      have g0 := f0 W hSW
      have g1 := f1 W hSW
      have g2 := f2 W hSW
      have g3 := f3 W hSW
      go_simp
      try with_reducible rfl
    try simp only [Act.put, List.setIfInBounds_toArray, List.set_cons_zero, List.set_cons_succ]
    refine take_at (i := 2) (d := 17) (v := ?_) rfl rfl (by kernel_rfl) (by kernel_rfl) (by kernel_rfl) (fun _ _ _ h => h) (Or.inl ⟨by rfl, ?_⟩) (by assumption) ?_
    rotate_left
    · intro W hSW
      try dsimp only at hSW
      have g0 := f0 W hSW
      have g1 := f1 W hSW
      have g2 := f2 W hSW
      have g3 := f3 W hSW
      go_simp
      try with_reducible rfl
    try simp only [Act.put, List.setIfInBounds_toArray, List.set_cons_zero, List.set_cons_succ]
    refine take_at (i := 4) (d := 19) (v := ?_) rfl rfl (by kernel_rfl) (by kernel_rfl) (by kernel_rfl) (fun _ _ _ h => h) (Or.inl ⟨by rfl, ?_⟩) (by assumption) ?_
    rotate_left
    · intro W hSW
      try dsimp only at hSW
      have g0 := f0 W hSW
      have g1 := f1 W hSW
      have g2 := f2 W hSW
      have g3 := f3 W hSW
      go_simp
      try with_reducible rfl
    try simp only [Act.put, List.setIfInBounds_toArray, List.set_cons_zero, List.set_cons_succ]
    refine take_at (i := 5) (d := 20) (v := ?_) rfl rfl (by kernel_rfl) (by kernel_rfl) (by kernel_rfl) (fun _ _ _ h => h) (Or.inl ⟨by rfl, ?_⟩) (by assumption) ?_
    rotate_left
    · intro W hSW
      try dsimp only at hSW
      have g0 := f0 W hSW
      have g1 := f1 W hSW
      have g2 := f2 W hSW
      have g3 := f3 W hSW
      go_simp
      try with_reducible rfl
    try simp only [Act.put, List.setIfInBounds_toArray, List.set_cons_zero, List.set_cons_succ]
    refine wpAnyH_ready (rs := [3, 7, 8]) (by kernel_rfl) (by simp) ?_
    refine AllReadyH.cons rfl (fun K hK => ?_) ?_
    · go_simp
      go_wp2_with (go_at_call 16; refine (HF.out _ (S1.thenN hHeld)).mono ?_; rintro e w43 ⟨b1, m1, d1, rfl, hP, hk43⟩)
      refine hK.out _ _ (hHeld.thenN hk43) (fun hHeld => ?_)
      clear hK K
      try simp only [Act.put, List.setIfInBounds_toArray, List.set_cons_zero, List.set_cons_succ]
      refine wpAnyH_ready (rs := [6, 7, 8]) (by kernel_rfl) (by simp) ?_
      refine AllReadyH.cons rfl (fun K hK => ?_) ?_
      · go_simp
        go_wp2_with (go_at_call 17; refine (HC.out _ (S1.thenN hHeld)).mono ?_; rintro e w46 ⟨b4, m4, d4, rfl, hC, hk46⟩)
        replace hP := hP.keptN hk46
        refine hK.out _ _ (hHeld.thenN hk46) (fun hHeld => ?_)
        clear hK K
        try simp only [Act.put, List.setIfInBounds_toArray, List.set_cons_zero, List.set_cons_succ]
        refine wpAnyH_ready (rs := [7, 8]) (by kernel_rfl) (by simp) ?_
        refine AllReadyH.cons rfl (fun K hK => ?_) ?_
        · refine nstep_alloc_nb (d := 7) (by rfl) (by rfl) (by rfl) ?_
          intro w57 g7 n7 hk57 hg7
          have hb7 : w1.heap.size ≤ g7 := Nat.le_trans hHeld.size hg7
          have x7P : ∀ z, (Value.slice b1 m1 d1).ownBlock = some z → z ≠ g7 := fun z hz e => by have := (hP.lt z hz).2; omega
          have x7C : ∀ z, (Value.slice b4 m4 d4).ownBlock = some z → z ≠ g7 := fun z hz e => by have := (hC.lt z hz).2; omega
          replace hP := hP.keptN hk57
          replace hC := hC.keptN hk57
          refine hK.out _ _ (hHeld.thenN hk57) (fun hHeld => ?_)
          clear hK K
          try simp only [Act.put, List.setIfInBounds_toArray, List.set_cons_zero, List.set_cons_succ]
          refine wpAnyH_ready (rs := [8]) (by kernel_rfl) (by simp) ?_
          refine AllReadyH.cons rfl (fun K hK => ?_) ?_
          · refine nstep_alloc_nb (d := 8) (by rfl) (by rfl) (by rfl) ?_
            intro w58 g8 n8 hk58 hg8
            have hb8 : w1.heap.size ≤ g8 := Nat.le_trans hHeld.size hg8
            have x8P : ∀ z, (Value.slice b1 m1 d1).ownBlock = some z → z ≠ g8 := fun z hz e => by have := (hP.lt z hz).2; omega
            have x8C : ∀ z, (Value.slice b4 m4 d4).ownBlock = some z → z ≠ g8 := fun z hz e => by have := (hC.lt z hz).2; omega
            have hne : g7 ≠ g8 := by have := n7.lt; omega
            replace n7 := n7.kept hk58 (fun h => h)
            replace hP := hP.keptN hk58
            replace hC := hC.keptN hk58
            refine hK.out _ _ (hHeld.thenN hk58) (fun hHeld => ?_)
            clear hK K
            try simp only [Act.put, List.setIfInBounds_toArray, List.set_cons_zero, List.set_cons_succ]
            refine wpAnyH_ready (rs := [9]) (by kernel_rfl) (by simp) ?_
            refine AllReadyH.cons rfl (fun K hK => ?_) ?_
            · refine nstep_store_nb (by rfl) (by rfl) (.tmp 7) (.tmp 18) (by rfl) g7 (by rfl) (by rfl) n7 ?_
              clear n7
              intro w69 n7 hk69
              replace n8 := nb_far n8 (fun e => hne e.symm) hk69
              replace hP := hP.kept hk69 (fun z hz e => x7P z hz e)
              replace hC := hC.kept hk69 (fun z hz e => x7C z hz e)
              refine hK.out _ _ (kp_far hHeld hb7 hk69) (fun hHeld => ?_)
              clear hK K
              try simp only [Act.put, List.setIfInBounds_toArray, List.set_cons_zero, List.set_cons_succ]
              refine wpAnyH_ready (rs := [10]) (by kernel_rfl) (by simp) ?_
              refine AllReadyH.cons rfl (fun K hK => ?_) ?_
              · refine nstep_store_nb (by rfl) (by rfl) (.tmp 8) (.tmp 21) (by rfl) g8 (by rfl) (by rfl) n8 ?_
                clear n8
                intro w70 n8 hk70
                replace n7 := nb_far n7 (hne) hk70
                replace hP := hP.kept hk70 (fun z hz e => x8P z hz e)
                replace hC := hC.kept hk70 (fun z hz e => x8C z hz e)
                refine hK.out _ _ (kp_far hHeld hb8 hk70) (fun hHeld => ?_)
                clear hK K
                try simp only [Act.put, List.setIfInBounds_toArray, List.set_cons_zero, List.set_cons_succ]
                refine wpAnyH_done (by kernel_rfl) ?_ _
                try go_wp2
                go_meet
                exact ⟨g7, g8, b1, m1, d1, b4, m4, d4, rfl, rfl, n7, n8, hP.mono (Nat.zero_le _), hC.mono (Nat.zero_le _), hHeld⟩
              exact AllReadyH.nil
            exact AllReadyH.nil
          exact AllReadyH.nil
        refine AllReadyH.cons rfl (fun K hK => ?_) ?_
        · refine nstep_alloc_nb (d := 8) (by rfl) (by rfl) (by rfl) ?_
          intro w58 g8 n8 hk58 hg8
          have hb8 : w1.heap.size ≤ g8 := Nat.le_trans hHeld.size hg8
          have x8P : ∀ z, (Value.slice b1 m1 d1).ownBlock = some z → z ≠ g8 := fun z hz e => by have := (hP.lt z hz).2; omega
          have x8C : ∀ z, (Value.slice b4 m4 d4).ownBlock = some z → z ≠ g8 := fun z hz e => by have := (hC.lt z hz).2; omega
          replace hP := hP.keptN hk58
          replace hC := hC.keptN hk58
          refine hK.out _ _ (hHeld.thenN hk58) (fun hHeld => ?_)
          clear hK K
          try simp only [Act.put, List.setIfInBounds_toArray, List.set_cons_zero, List.set_cons_succ]
          refine wpAnyH_ready (rs := [7]) (by kernel_rfl) (by simp) ?_
          refine AllReadyH.cons rfl (fun K hK => ?_) ?_
          · refine nstep_alloc_nb (d := 7) (by rfl) (by rfl) (by rfl) ?_
            intro w57 g7 n7 hk57 hg7
            have hb7 : w1.heap.size ≤ g7 := Nat.le_trans hHeld.size hg7
            have x7P : ∀ z, (Value.slice b1 m1 d1).ownBlock = some z → z ≠ g7 := fun z hz e => by have := (hP.lt z hz).2; omega
            have x7C : ∀ z, (Value.slice b4 m4 d4).ownBlock = some z → z ≠ g7 := fun z hz e => by have := (hC.lt z hz).2; omega
            have hne : g7 ≠ g8 := by have := n8.lt; omega
            replace n8 := n8.kept hk57 (fun h => h)
            replace hP := hP.keptN hk57
            replace hC := hC.keptN hk57
            refine hK.out _ _ (hHeld.thenN hk57) (fun hHeld => ?_)
            clear hK K
            try simp only [Act.put, List.setIfInBounds_toArray, List.set_cons_zero, List.set_cons_succ]
            refine wpAnyH_ready (rs := [9]) (by kernel_rfl) (by simp) ?_
            refine AllReadyH.cons rfl (fun K hK => ?_) ?_
            · refine nstep_store_nb (by rfl) (by rfl) (.tmp 7) (.tmp 18) (by rfl) g7 (by rfl) (by rfl) n7 ?_
              clear n7
              intro w69 n7 hk69
              replace n8 := nb_far n8 (fun e => hne e.symm) hk69
              replace hP := hP.kept hk69 (fun z hz e => x7P z hz e)
              replace hC := hC.kept hk69 (fun z hz e => x7C z hz e)
              refine hK.out _ _ (kp_far hHeld hb7 hk69) (fun hHeld => ?_)
              clear hK K
              try simp only [Act.put, List.setIfInBounds_toArray, List.set_cons_zero, List.set_cons_succ]
              refine wpAnyH_ready (rs := [10]) (by kernel_rfl) (by simp) ?_
              refine AllReadyH.cons rfl (fun K hK => ?_) ?_
              · refine nstep_store_nb (by rfl) (by rfl) (.tmp 8) (.tmp 21) (by rfl) g8 (by rfl) (by rfl) n8 ?_
                clear n8
                intro w70 n8 hk70
                replace n7 := nb_far n7 (hne) hk70
                replace hP := hP.kept hk70 (fun z hz e => x8P z hz e)
                replace hC := hC.kept hk70 (fun z hz e => x8C z hz e)
                refine hK.out _ _ (kp_far hHeld hb8 hk70) (fun hHeld => ?_)
                clear hK K
                try simp only [Act.put, List.setIfInBounds_toArray, List.set_cons_zero, List.set_cons_succ]
                refine wpAnyH_done (by kernel_rfl) ?_ _
                try go_wp2
                go_meet
                exact ⟨g7, g8, b1, m1, d1, b4, m4, d4, rfl, rfl, n7, n8, hP.mono (Nat.zero_le _), hC.mono (Nat.zero_le _), hHeld⟩
              exact AllReadyH.nil
            exact AllReadyH.nil
          exact AllReadyH.nil
        exact AllReadyH.nil
      refine AllReadyH.cons rfl (fun K hK => ?_) ?_
      · refine nstep_alloc_nb (d := 7) (by rfl) (by rfl) (by rfl) ?_
        intro w57 g7 n7 hk57 hg7
        have hb7 : w1.heap.size ≤ g7 := Nat.le_trans hHeld.size hg7
        have x7P : ∀ z, (Value.slice b1 m1 d1).ownBlock = some z → z ≠ g7 := fun z hz e => by have := (hP.lt z hz).2; omega
        replace hP := hP.keptN hk57
        refine hK.out _ _ (hHeld.thenN hk57) (fun hHeld => ?_)
        clear hK K
        try simp only [Act.put, List.setIfInBounds_toArray, List.set_cons_zero, List.set_cons_succ]
        refine wpAnyH_ready (rs := [6, 8]) (by kernel_rfl) (by simp) ?_
        refine AllReadyH.cons rfl (fun K hK => ?_) ?_
        · go_simp
          go_wp2_with (go_at_call 17; refine (HC.out _ (S1.thenN hHeld)).mono ?_; rintro e w46 ⟨b4, m4, d4, rfl, hC, hk46⟩)
          have x7C : ∀ z, (Value.slice b4 m4 d4).ownBlock = some z → z ≠ g7 := fun z hz e => by have := (hC.lt z hz).1; have := n7.lt; omega
          replace n7 := n7.kept hk46 (fun h => h)
          replace hP := hP.keptN hk46
          refine hK.out _ _ (hHeld.thenN hk46) (fun hHeld => ?_)
          clear hK K
          try simp only [Act.put, List.setIfInBounds_toArray, List.set_cons_zero, List.set_cons_succ]
          refine wpAnyH_ready (rs := [8]) (by kernel_rfl) (by simp) ?_
          refine AllReadyH.cons rfl (fun K hK => ?_) ?_
          · refine nstep_alloc_nb (d := 8) (by rfl) (by rfl) (by rfl) ?_
            intro w58 g8 n8 hk58 hg8
            have hb8 : w1.heap.size ≤ g8 := Nat.le_trans hHeld.size hg8
            have x8P : ∀ z, (Value.slice b1 m1 d1).ownBlock = some z → z ≠ g8 := fun z hz e => by have := (hP.lt z hz).2; omega
            have x8C : ∀ z, (Value.slice b4 m4 d4).ownBlock = some z → z ≠ g8 := fun z hz e => by have := (hC.lt z hz).2; omega
            have hne : g7 ≠ g8 := by have := n7.lt; omega
            replace n7 := n7.kept hk58 (fun h => h)
            replace hP := hP.keptN hk58
            replace hC := hC.keptN hk58
            refine hK.out _ _ (hHeld.thenN hk58) (fun hHeld => ?_)
            clear hK K
            try simp only [Act.put, List.setIfInBounds_toArray, List.set_cons_zero, List.set_cons_succ]
            refine wpAnyH_ready (rs := [9]) (by kernel_rfl) (by simp) ?_
            refine AllReadyH.cons rfl (fun K hK => ?_) ?_
            · refine nstep_store_nb (by rfl) (by rfl) (.tmp 7) (.tmp 18) (by rfl) g7 (by rfl) (by rfl) n7 ?_
              clear n7
              intro w69 n7 hk69
              replace n8 := nb_far n8 (fun e => hne e.symm) hk69
              replace hP := hP.kept hk69 (fun z hz e => x7P z hz e)
              replace hC := hC.kept hk69 (fun z hz e => x7C z hz e)
              refine hK.out _ _ (kp_far hHeld hb7 hk69) (fun hHeld => ?_)
              clear hK K
              try simp only [Act.put, List.setIfInBounds_toArray, List.set_cons_zero, List.set_cons_succ]
              refine wpAnyH_ready (rs := [10]) (by kernel_rfl) (by simp) ?_
              refine AllReadyH.cons rfl (fun K hK => ?_) ?_
              · refine nstep_store_nb (by rfl) (by rfl) (.tmp 8) (.tmp 21) (by rfl) g8 (by rfl) (by rfl) n8 ?_
                clear n8
                intro w70 n8 hk70
                replace n7 := nb_far n7 (hne) hk70
                replace hP := hP.kept hk70 (fun z hz e => x8P z hz e)
                replace hC := hC.kept hk70 (fun z hz e => x8C z hz e)
                refine hK.out _ _ (kp_far hHeld hb8 hk70) (fun hHeld => ?_)
                clear hK K
                try simp only [Act.put, List.setIfInBounds_toArray, List.set_cons_zero, List.set_cons_succ]
                refine wpAnyH_done (by kernel_rfl) ?_ _
                try go_wp2
                go_meet
                exact ⟨g7, g8, b1, m1, d1, b4, m4, d4, rfl, rfl, n7, n8, hP.mono (Nat.zero_le _), hC.mono (Nat.zero_le _), hHeld⟩
              exact AllReadyH.nil
            exact AllReadyH.nil
          exact AllReadyH.nil
        refine AllReadyH.cons rfl (fun K hK => ?_) ?_
        · refine nstep_alloc_nb (d := 8) (by rfl) (by rfl) (by rfl) ?_
          intro w58 g8 n8 hk58 hg8
          have hb8 : w1.heap.size ≤ g8 := Nat.le_trans hHeld.size hg8
          have x8P : ∀ z, (Value.slice b1 m1 d1).ownBlock = some z → z ≠ g8 := fun z hz e => by have := (hP.lt z hz).2; omega
          have hne : g7 ≠ g8 := by have := n7.lt; omega
          replace n7 := n7.kept hk58 (fun h => h)
          replace hP := hP.keptN hk58
          refine hK.out _ _ (hHeld.thenN hk58) (fun hHeld => ?_)
          clear hK K
          try simp only [Act.put, List.setIfInBounds_toArray, List.set_cons_zero, List.set_cons_succ]
          refine wpAnyH_ready (rs := [6]) (by kernel_rfl) (by simp) ?_
          refine AllReadyH.cons rfl (fun K hK => ?_) ?_
          · go_simp
            go_wp2_with (go_at_call 17; refine (HC.out _ (S1.thenN hHeld)).mono ?_; rintro e w46 ⟨b4, m4, d4, rfl, hC, hk46⟩)
            have x7C : ∀ z, (Value.slice b4 m4 d4).ownBlock = some z → z ≠ g7 := fun z hz e => by have := (hC.lt z hz).1; have := n7.lt; omega
            have x8C : ∀ z, (Value.slice b4 m4 d4).ownBlock = some z → z ≠ g8 := fun z hz e => by have := (hC.lt z hz).1; have := n8.lt; omega
            replace n7 := n7.kept hk46 (fun h => h)
            replace n8 := n8.kept hk46 (fun h => h)
            replace hP := hP.keptN hk46
            refine hK.out _ _ (hHeld.thenN hk46) (fun hHeld => ?_)
            clear hK K
            try simp only [Act.put, List.setIfInBounds_toArray, List.set_cons_zero, List.set_cons_succ]
            refine wpAnyH_ready (rs := [9]) (by kernel_rfl) (by simp) ?_
            refine AllReadyH.cons rfl (fun K hK => ?_) ?_
            · refine nstep_store_nb (by rfl) (by rfl) (.tmp 7) (.tmp 18) (by rfl) g7 (by rfl) (by rfl) n7 ?_
              clear n7
              intro w69 n7 hk69
              replace n8 := nb_far n8 (fun e => hne e.symm) hk69
              replace hP := hP.kept hk69 (fun z hz e => x7P z hz e)
              replace hC := hC.kept hk69 (fun z hz e => x7C z hz e)
              refine hK.out _ _ (kp_far hHeld hb7 hk69) (fun hHeld => ?_)
              clear hK K
              try simp only [Act.put, List.setIfInBounds_toArray, List.set_cons_zero, List.set_cons_succ]
              refine wpAnyH_ready (rs := [10]) (by kernel_rfl) (by simp) ?_
              refine AllReadyH.cons rfl (fun K hK => ?_) ?_
              · refine nstep_store_nb (by rfl) (by rfl) (.tmp 8) (.tmp 21) (by rfl) g8 (by rfl) (by rfl) n8 ?_
                clear n8
                intro w70 n8 hk70
                replace n7 := nb_far n7 (hne) hk70
                replace hP := hP.kept hk70 (fun z hz e => x8P z hz e)
                replace hC := hC.kept hk70 (fun z hz e => x8C z hz e)
                refine hK.out _ _ (kp_far hHeld hb8 hk70) (fun hHeld => ?_)
                clear hK K
                try simp only [Act.put, List.setIfInBounds_toArray, List.set_cons_zero, List.set_cons_succ]
                refine wpAnyH_done (by kernel_rfl) ?_ _
                try go_wp2
                go_meet
                exact ⟨g7, g8, b1, m1, d1, b4, m4, d4, rfl, rfl, n7, n8, hP.mono (Nat.zero_le _), hC.mono (Nat.zero_le _), hHeld⟩
              exact AllReadyH.nil
            exact AllReadyH.nil
          exact AllReadyH.nil
        exact AllReadyH.nil
      refine AllReadyH.cons rfl (fun K hK => ?_) ?_
      · refine nstep_alloc_nb (d := 8) (by rfl) (by rfl) (by rfl) ?_
        intro w58 g8 n8 hk58 hg8
        have hb8 : w1.heap.size ≤ g8 := Nat.le_trans hHeld.size hg8
        have x8P : ∀ z, (Value.slice b1 m1 d1).ownBlock = some z → z ≠ g8 := fun z hz e => by have := (hP.lt z hz).2; omega
        replace hP := hP.keptN hk58
        refine hK.out _ _ (hHeld.thenN hk58) (fun hHeld => ?_)
        clear hK K
        try simp only [Act.put, List.setIfInBounds_toArray, List.set_cons_zero, List.set_cons_succ]
        refine wpAnyH_ready (rs := [6, 7]) (by kernel_rfl) (by simp) ?_
        refine AllReadyH.cons rfl (fun K hK => ?_) ?_
        · go_simp
          go_wp2_with (go_at_call 17; refine (HC.out _ (S1.thenN hHeld)).mono ?_; rintro e w46 ⟨b4, m4, d4, rfl, hC, hk46⟩)
          have x8C : ∀ z, (Value.slice b4 m4 d4).ownBlock = some z → z ≠ g8 := fun z hz e => by have := (hC.lt z hz).1; have := n8.lt; omega
          replace n8 := n8.kept hk46 (fun h => h)
          replace hP := hP.keptN hk46
          refine hK.out _ _ (hHeld.thenN hk46) (fun hHeld => ?_)
          clear hK K
          try simp only [Act.put, List.setIfInBounds_toArray, List.set_cons_zero, List.set_cons_succ]
          refine wpAnyH_ready (rs := [7]) (by kernel_rfl) (by simp) ?_
          refine AllReadyH.cons rfl (fun K hK => ?_) ?_
          · refine nstep_alloc_nb (d := 7) (by rfl) (by rfl) (by rfl) ?_
            intro w57 g7 n7 hk57 hg7
            have hb7 : w1.heap.size ≤ g7 := Nat.le_trans hHeld.size hg7
            have x7P : ∀ z, (Value.slice b1 m1 d1).ownBlock = some z → z ≠ g7 := fun z hz e => by have := (hP.lt z hz).2; omega
            have x7C : ∀ z, (Value.slice b4 m4 d4).ownBlock = some z → z ≠ g7 := fun z hz e => by have := (hC.lt z hz).2; omega
            have hne : g7 ≠ g8 := by have := n8.lt; omega
            replace n8 := n8.kept hk57 (fun h => h)
            replace hP := hP.keptN hk57
            replace hC := hC.keptN hk57
            refine hK.out _ _ (hHeld.thenN hk57) (fun hHeld => ?_)
            clear hK K
            try simp only [Act.put, List.setIfInBounds_toArray, List.set_cons_zero, List.set_cons_succ]
            refine wpAnyH_ready (rs := [9]) (by kernel_rfl) (by simp) ?_
            refine AllReadyH.cons rfl (fun K hK => ?_) ?_
            · refine nstep_store_nb (by rfl) (by rfl) (.tmp 7) (.tmp 18) (by rfl) g7 (by rfl) (by rfl) n7 ?_
              clear n7
              intro w69 n7 hk69
              replace n8 := nb_far n8 (fun e => hne e.symm) hk69
              replace hP := hP.kept hk69 (fun z hz e => x7P z hz e)
              replace hC := hC.kept hk69 (fun z hz e => x7C z hz e)
              refine hK.out _ _ (kp_far hHeld hb7 hk69) (fun hHeld => ?_)
              clear hK K
              try simp only [Act.put, List.setIfInBounds_toArray, List.set_cons_zero, List.set_cons_succ]
              refine wpAnyH_ready (rs := [10]) (by kernel_rfl) (by simp) ?_
              refine AllReadyH.cons rfl (fun K hK => ?_) ?_
              · refine nstep_store_nb (by rfl) (by rfl) (.tmp 8) (.tmp 21) (by rfl) g8 (by rfl) (by rfl) n8 ?_
                clear n8
                intro w70 n8 hk70
                replace n7 := nb_far n7 (hne) hk70
                replace hP := hP.kept hk70 (fun z hz e => x8P z hz e)
                replace hC := hC.kept hk70 (fun z hz e => x8C z hz e)
                refine hK.out _ _ (kp_far hHeld hb8 hk70) (fun hHeld => ?_)
                clear hK K
                try simp only [Act.put, List.setIfInBounds_toArray, List.set_cons_zero, List.set_cons_succ]
                refine wpAnyH_done (by kernel_rfl) ?_ _
                try go_wp2
                go_meet
                exact ⟨g7, g8, b1, m1, d1, b4, m4, d4, rfl, rfl, n7, n8, hP.mono (Nat.zero_le _), hC.mono (Nat.zero_le _), hHeld⟩
              exact AllReadyH.nil
            exact AllReadyH.nil
          exact AllReadyH.nil
        refine AllReadyH.cons rfl (fun K hK => ?_) ?_
        · refine nstep_alloc_nb (d := 7) (by rfl) (by rfl) (by rfl) ?_
          intro w57 g7 n7 hk57 hg7
          have hb7 : w1.heap.size ≤ g7 := Nat.le_trans hHeld.size hg7
          have x7P : ∀ z, (Value.slice b1 m1 d1).ownBlock = some z → z ≠ g7 := fun z hz e => by have := (hP.lt z hz).2; omega
          have hne : g7 ≠ g8 := by have := n8.lt; omega
          replace n8 := n8.kept hk57 (fun h => h)
          replace hP := hP.keptN hk57
          refine hK.out _ _ (hHeld.thenN hk57) (fun hHeld => ?_)
          clear hK K
          try simp only [Act.put, List.setIfInBounds_toArray, List.set_cons_zero, List.set_cons_succ]
          refine wpAnyH_ready (rs := [6]) (by kernel_rfl) (by simp) ?_
          refine AllReadyH.cons rfl (fun K hK => ?_) ?_
          · go_simp
            go_wp2_with (go_at_call 17; refine (HC.out _ (S1.thenN hHeld)).mono ?_; rintro e w46 ⟨b4, m4, d4, rfl, hC, hk46⟩)
            have x7C : ∀ z, (Value.slice b4 m4 d4).ownBlock = some z → z ≠ g7 := fun z hz e => by have := (hC.lt z hz).1; have := n7.lt; omega
            have x8C : ∀ z, (Value.slice b4 m4 d4).ownBlock = some z → z ≠ g8 := fun z hz e => by have := (hC.lt z hz).1; have := n8.lt; omega
            replace n7 := n7.kept hk46 (fun h => h)
            replace n8 := n8.kept hk46 (fun h => h)
            replace hP := hP.keptN hk46
            refine hK.out _ _ (hHeld.thenN hk46) (fun hHeld => ?_)
            clear hK K
            try simp only [Act.put, List.setIfInBounds_toArray, List.set_cons_zero, List.set_cons_succ]
            refine wpAnyH_ready (rs := [9]) (by kernel_rfl) (by simp) ?_
            refine AllReadyH.cons rfl (fun K hK => ?_) ?_
            · refine nstep_store_nb (by rfl) (by rfl) (.tmp 7) (.tmp 18) (by rfl) g7 (by rfl) (by rfl) n7 ?_
              clear n7
              intro w69 n7 hk69
              replace n8 := nb_far n8 (fun e => hne e.symm) hk69
              replace hP := hP.kept hk69 (fun z hz e => x7P z hz e)
              replace hC := hC.kept hk69 (fun z hz e => x7C z hz e)
              refine hK.out _ _ (kp_far hHeld hb7 hk69) (fun hHeld => ?_)
              clear hK K
              try simp only [Act.put, List.setIfInBounds_toArray, List.set_cons_zero, List.set_cons_succ]
              refine wpAnyH_ready (rs := [10]) (by kernel_rfl) (by simp) ?_
              refine AllReadyH.cons rfl (fun K hK => ?_) ?_
              · refine nstep_store_nb (by rfl) (by rfl) (.tmp 8) (.tmp 21) (by rfl) g8 (by rfl) (by rfl) n8 ?_
                clear n8
                intro w70 n8 hk70
                replace n7 := nb_far n7 (hne) hk70
                replace hP := hP.kept hk70 (fun z hz e => x8P z hz e)
                replace hC := hC.kept hk70 (fun z hz e => x8C z hz e)
                refine hK.out _ _ (kp_far hHeld hb8 hk70) (fun hHeld => ?_)
                clear hK K
                try simp only [Act.put, List.setIfInBounds_toArray, List.set_cons_zero, List.set_cons_succ]
                refine wpAnyH_done (by kernel_rfl) ?_ _
                try go_wp2
                go_meet
                exact ⟨g7, g8, b1, m1, d1, b4, m4, d4, rfl, rfl, n7, n8, hP.mono (Nat.zero_le _), hC.mono (Nat.zero_le _), hHeld⟩
              exact AllReadyH.nil
            exact AllReadyH.nil
          exact AllReadyH.nil
        exact AllReadyH.nil
      exact AllReadyH.nil
    refine AllReadyH.cons rfl (fun K hK => ?_) ?_
    · refine nstep_alloc_nb (d := 7) (by rfl) (by rfl) (by rfl) ?_
      intro w57 g7 n7 hk57 hg7
      have hb7 : w1.heap.size ≤ g7 := Nat.le_trans hHeld.size hg7
      refine hK.out _ _ (hHeld.thenN hk57) (fun hHeld => ?_)
      clear hK K
      try simp only [Act.put, List.setIfInBounds_toArray, List.set_cons_zero, List.set_cons_succ]
      refine wpAnyH_ready (rs := [3, 8]) (by kernel_rfl) (by simp) ?_
      refine AllReadyH.cons rfl (fun K hK => ?_) ?_
      · go_simp
        go_wp2_with (go_at_call 16; refine (HF.out _ (S1.thenN hHeld)).mono ?_; rintro e w43 ⟨b1, m1, d1, rfl, hP, hk43⟩)
        have x7P : ∀ z, (Value.slice b1 m1 d1).ownBlock = some z → z ≠ g7 := fun z hz e => by have := (hP.lt z hz).1; have := n7.lt; omega
        replace n7 := n7.kept hk43 (fun h => h)
        refine hK.out _ _ (hHeld.thenN hk43) (fun hHeld => ?_)
        clear hK K
        try simp only [Act.put, List.setIfInBounds_toArray, List.set_cons_zero, List.set_cons_succ]
        refine wpAnyH_ready (rs := [6, 8]) (by kernel_rfl) (by simp) ?_
        refine AllReadyH.cons rfl (fun K hK => ?_) ?_
        · go_simp
          go_wp2_with (go_at_call 17; refine (HC.out _ (S1.thenN hHeld)).mono ?_; rintro e w46 ⟨b4, m4, d4, rfl, hC, hk46⟩)
          have x7C : ∀ z, (Value.slice b4 m4 d4).ownBlock = some z → z ≠ g7 := fun z hz e => by have := (hC.lt z hz).1; have := n7.lt; omega
          replace n7 := n7.kept hk46 (fun h => h)
          replace hP := hP.keptN hk46
          refine hK.out _ _ (hHeld.thenN hk46) (fun hHeld => ?_)
          clear hK K
          try simp only [Act.put, List.setIfInBounds_toArray, List.set_cons_zero, List.set_cons_succ]
          refine wpAnyH_ready (rs := [8]) (by kernel_rfl) (by simp) ?_
          refine AllReadyH.cons rfl (fun K hK => ?_) ?_
          · refine nstep_alloc_nb (d := 8) (by rfl) (by rfl) (by rfl) ?_
            intro w58 g8 n8 hk58 hg8
            have hb8 : w1.heap.size ≤ g8 := Nat.le_trans hHeld.size hg8
            have x8P : ∀ z, (Value.slice b1 m1 d1).ownBlock = some z → z ≠ g8 := fun z hz e => by have := (hP.lt z hz).2; omega
            have x8C : ∀ z, (Value.slice b4 m4 d4).ownBlock = some z → z ≠ g8 := fun z hz e => by have := (hC.lt z hz).2; omega
            have hne : g7 ≠ g8 := by have := n7.lt; omega
            replace n7 := n7.kept hk58 (fun h => h)
            replace hP := hP.keptN hk58
            replace hC := hC.keptN hk58
            refine hK.out _ _ (hHeld.thenN hk58) (fun hHeld => ?_)
            clear hK K
            try simp only [Act.put, List.setIfInBounds_toArray, List.set_cons_zero, List.set_cons_succ]
            refine wpAnyH_ready (rs := [9]) (by kernel_rfl) (by simp) ?_
            refine AllReadyH.cons rfl (fun K hK => ?_) ?_
            · refine nstep_store_nb (by rfl) (by rfl) (.tmp 7) (.tmp 18) (by rfl) g7 (by rfl) (by rfl) n7 ?_
              clear n7
              intro w69 n7 hk69
              replace n8 := nb_far n8 (fun e => hne e.symm) hk69
              replace hP := hP.kept hk69 (fun z hz e => x7P z hz e)
              replace hC := hC.kept hk69 (fun z hz e => x7C z hz e)
              refine hK.out _ _ (kp_far hHeld hb7 hk69) (fun hHeld => ?_)
              clear hK K
              try simp only [Act.put, List.setIfInBounds_toArray, List.set_cons_zero, List.set_cons_succ]
              refine wpAnyH_ready (rs := [10]) (by kernel_rfl) (by simp) ?_
              refine AllReadyH.cons rfl (fun K hK => ?_) ?_
              · refine nstep_store_nb (by rfl) (by rfl) (.tmp 8) (.tmp 21) (by rfl) g8 (by rfl) (by rfl) n8 ?_
                clear n8
                intro w70 n8 hk70
                replace n7 := nb_far n7 (hne) hk70
                replace hP := hP.kept hk70 (fun z hz e => x8P z hz e)
                replace hC := hC.kept hk70 (fun z hz e => x8C z hz e)
                refine hK.out _ _ (kp_far hHeld hb8 hk70) (fun hHeld => ?_)
                clear hK K
                try simp only [Act.put, List.setIfInBounds_toArray, List.set_cons_zero, List.set_cons_succ]
                refine wpAnyH_done (by kernel_rfl) ?_ _
                try go_wp2
                go_meet
                exact ⟨g7, g8, b1, m1, d1, b4, m4, d4, rfl, rfl, n7, n8, hP.mono (Nat.zero_le _), hC.mono (Nat.zero_le _), hHeld⟩
              exact AllReadyH.nil
            exact AllReadyH.nil
          exact AllReadyH.nil
        refine AllReadyH.cons rfl (fun K hK => ?_) ?_
        · refine nstep_alloc_nb (d := 8) (by rfl) (by rfl) (by rfl) ?_
          intro w58 g8 n8 hk58 hg8
          have hb8 : w1.heap.size ≤ g8 := Nat.le_trans hHeld.size hg8
          have x8P : ∀ z, (Value.slice b1 m1 d1).ownBlock = some z → z ≠ g8 := fun z hz e => by have := (hP.lt z hz).2; omega
          have hne : g7 ≠ g8 := by have := n7.lt; omega
          replace n7 := n7.kept hk58 (fun h => h)
          replace hP := hP.keptN hk58
          refine hK.out _ _ (hHeld.thenN hk58) (fun hHeld => ?_)
          clear hK K
          try simp only [Act.put, List.setIfInBounds_toArray, List.set_cons_zero, List.set_cons_succ]
          refine wpAnyH_ready (rs := [6]) (by kernel_rfl) (by simp) ?_
          refine AllReadyH.cons rfl (fun K hK => ?_) ?_
          · go_simp
            go_wp2_with (go_at_call 17; refine (HC.out _ (S1.thenN hHeld)).mono ?_; rintro e w46 ⟨b4, m4, d4, rfl, hC, hk46⟩)
            have x7C : ∀ z, (Value.slice b4 m4 d4).ownBlock = some z → z ≠ g7 := fun z hz e => by have := (hC.lt z hz).1; have := n7.lt; omega
            have x8C : ∀ z, (Value.slice b4 m4 d4).ownBlock = some z → z ≠ g8 := fun z hz e => by have := (hC.lt z hz).1; have := n8.lt; omega
            replace n7 := n7.kept hk46 (fun h => h)
            replace n8 := n8.kept hk46 (fun h => h)
            replace hP := hP.keptN hk46
            refine hK.out _ _ (hHeld.thenN hk46) (fun hHeld => ?_)
            clear hK K
            try simp only [Act.put, List.setIfInBounds_toArray, List.set_cons_zero, List.set_cons_succ]
            refine wpAnyH_ready (rs := [9]) (by kernel_rfl) (by simp) ?_
            refine AllReadyH.cons rfl (fun K hK => ?_) ?_
            · refine nstep_store_nb (by rfl) (by rfl) (.tmp 7) (.tmp 18) (by rfl) g7 (by rfl) (by rfl) n7 ?_
              clear n7
              intro w69 n7 hk69
              replace n8 := nb_far n8 (fun e => hne e.symm) hk69
              replace hP := hP.kept hk69 (fun z hz e => x7P z hz e)
              replace hC := hC.kept hk69 (fun z hz e => x7C z hz e)
              refine hK.out _ _ (kp_far hHeld hb7 hk69) (fun hHeld => ?_)
              clear hK K
              try simp only [Act.put, List.setIfInBounds_toArray, List.set_cons_zero, List.set_cons_succ]
              refine wpAnyH_ready (rs := [10]) (by kernel_rfl) (by simp) ?_
              refine AllReadyH.cons rfl (fun K hK => ?_) ?_
              · refine nstep_store_nb (by rfl) (by rfl) (.tmp 8) (.tmp 21) (by rfl) g8 (by rfl) (by rfl) n8 ?_
                clear n8
                intro w70 n8 hk70
                replace n7 := nb_far n7 (hne) hk70
                replace hP := hP.kept hk70 (fun z hz e => x8P z hz e)
                replace hC := hC.kept hk70 (fun z hz e => x8C z hz e)
                refine hK.out _ _ (kp_far hHeld hb8 hk70) (fun hHeld => ?_)
                clear hK K
                try simp only [Act.put, List.setIfInBounds_toArray, List.set_cons_zero, List.set_cons_succ]
                refine wpAnyH_done (by kernel_rfl) ?_ _
                try go_wp2
                go_meet
                exact ⟨g7, g8, b1, m1, d1, b4, m4, d4, rfl, rfl, n7, n8, hP.mono (Nat.zero_le _), hC.mono (Nat.zero_le _), hHeld⟩
              exact AllReadyH.nil
            exact AllReadyH.nil
          exact AllReadyH.nil
        exact AllReadyH.nil
      refine AllReadyH.cons rfl (fun K hK => ?_) ?_
      · refine nstep_alloc_nb (d := 8) (by rfl) (by rfl) (by rfl) ?_
        intro w58 g8 n8 hk58 hg8
        have hb8 : w1.heap.size ≤ g8 := Nat.le_trans hHeld.size hg8
        have hne : g7 ≠ g8 := by have := n7.lt; omega
        replace n7 := n7.kept hk58 (fun h => h)
        refine hK.out _ _ (hHeld.thenN hk58) (fun hHeld => ?_)
        clear hK K
        try simp only [Act.put, List.setIfInBounds_toArray, List.set_cons_zero, List.set_cons_succ]
        refine wpAnyH_ready (rs := [3]) (by kernel_rfl) (by simp) ?_
        refine AllReadyH.cons rfl (fun K hK => ?_) ?_
        · go_simp
          go_wp2_with (go_at_call 16; refine (HF.out _ (S1.thenN hHeld)).mono ?_; rintro e w43 ⟨b1, m1, d1, rfl, hP, hk43⟩)
          have x7P : ∀ z, (Value.slice b1 m1 d1).ownBlock = some z → z ≠ g7 := fun z hz e => by have := (hP.lt z hz).1; have := n7.lt; omega
          have x8P : ∀ z, (Value.slice b1 m1 d1).ownBlock = some z → z ≠ g8 := fun z hz e => by have := (hP.lt z hz).1; have := n8.lt; omega
          replace n7 := n7.kept hk43 (fun h => h)
          replace n8 := n8.kept hk43 (fun h => h)
          refine hK.out _ _ (hHeld.thenN hk43) (fun hHeld => ?_)
          clear hK K
          try simp only [Act.put, List.setIfInBounds_toArray, List.set_cons_zero, List.set_cons_succ]
          refine wpAnyH_ready (rs := [6]) (by kernel_rfl) (by simp) ?_
          refine AllReadyH.cons rfl (fun K hK => ?_) ?_
          · go_simp
            go_wp2_with (go_at_call 17; refine (HC.out _ (S1.thenN hHeld)).mono ?_; rintro e w46 ⟨b4, m4, d4, rfl, hC, hk46⟩)
            have x7C : ∀ z, (Value.slice b4 m4 d4).ownBlock = some z → z ≠ g7 := fun z hz e => by have := (hC.lt z hz).1; have := n7.lt; omega
            have x8C : ∀ z, (Value.slice b4 m4 d4).ownBlock = some z → z ≠ g8 := fun z hz e => by have := (hC.lt z hz).1; have := n8.lt; omega
            replace n7 := n7.kept hk46 (fun h => h)
            replace n8 := n8.kept hk46 (fun h => h)
            replace hP := hP.keptN hk46
            refine hK.out _ _ (hHeld.thenN hk46) (fun hHeld => ?_)
            clear hK K
            try simp only [Act.put, List.setIfInBounds_toArray, List.set_cons_zero, List.set_cons_succ]
            refine wpAnyH_ready (rs := [9]) (by kernel_rfl) (by simp) ?_
            refine AllReadyH.cons rfl (fun K hK => ?_) ?_
            · refine nstep_store_nb (by rfl) (by rfl) (.tmp 7) (.tmp 18) (by rfl) g7 (by rfl) (by rfl) n7 ?_
              clear n7
              intro w69 n7 hk69
              replace n8 := nb_far n8 (fun e => hne e.symm) hk69
              replace hP := hP.kept hk69 (fun z hz e => x7P z hz e)
              replace hC := hC.kept hk69 (fun z hz e => x7C z hz e)
              refine hK.out _ _ (kp_far hHeld hb7 hk69) (fun hHeld => ?_)
              clear hK K
              try simp only [Act.put, List.setIfInBounds_toArray, List.set_cons_zero, List.set_cons_succ]
              refine wpAnyH_ready (rs := [10]) (by kernel_rfl) (by simp) ?_
              refine AllReadyH.cons rfl (fun K hK => ?_) ?_
              · refine nstep_store_nb (by rfl) (by rfl) (.tmp 8) (.tmp 21) (by rfl) g8 (by rfl) (by rfl) n8 ?_
                clear n8
                intro w70 n8 hk70
                replace n7 := nb_far n7 (hne) hk70
                replace hP := hP.kept hk70 (fun z hz e => x8P z hz e)
                replace hC := hC.kept hk70 (fun z hz e => x8C z hz e)
                refine hK.out _ _ (kp_far hHeld hb8 hk70) (fun hHeld => ?_)
                clear hK K
                try simp only [Act.put, List.setIfInBounds_toArray, List.set_cons_zero, List.set_cons_succ]
                refine wpAnyH_done (by kernel_rfl) ?_ _
                try go_wp2
                go_meet
                exact ⟨g7, g8, b1, m1, d1, b4, m4, d4, rfl, rfl, n7, n8, hP.mono (Nat.zero_le _), hC.mono (Nat.zero_le _), hHeld⟩
              exact AllReadyH.nil
            exact AllReadyH.nil
          exact AllReadyH.nil
        exact AllReadyH.nil
      exact AllReadyH.nil
    refine AllReadyH.cons rfl (fun K hK => ?_) ?_
    · refine nstep_alloc_nb (d := 8) (by rfl) (by rfl) (by rfl) ?_
      intro w58 g8 n8 hk58 hg8
      have hb8 : w1.heap.size ≤ g8 := Nat.le_trans hHeld.size hg8
      refine hK.out _ _ (hHeld.thenN hk58) (fun hHeld => ?_)
      clear hK K
      try simp only [Act.put, List.setIfInBounds_toArray, List.set_cons_zero, List.set_cons_succ]
      refine wpAnyH_ready (rs := [3, 7]) (by kernel_rfl) (by simp) ?_
      refine AllReadyH.cons rfl (fun K hK => ?_) ?_
      · go_simp
        go_wp2_with (go_at_call 16; refine (HF.out _ (S1.thenN hHeld)).mono ?_; rintro e w43 ⟨b1, m1, d1, rfl, hP, hk43⟩)
        have x8P : ∀ z, (Value.slice b1 m1 d1).ownBlock = some z → z ≠ g8 := fun z hz e => by have := (hP.lt z hz).1; have := n8.lt; omega
        replace n8 := n8.kept hk43 (fun h => h)
        refine hK.out _ _ (hHeld.thenN hk43) (fun hHeld => ?_)
        clear hK K
        try simp only [Act.put, List.setIfInBounds_toArray, List.set_cons_zero, List.set_cons_succ]
        refine wpAnyH_ready (rs := [6, 7]) (by kernel_rfl) (by simp) ?_
        refine AllReadyH.cons rfl (fun K hK => ?_) ?_
        · go_simp
          go_wp2_with (go_at_call 17; refine (HC.out _ (S1.thenN hHeld)).mono ?_; rintro e w46 ⟨b4, m4, d4, rfl, hC, hk46⟩)
          have x8C : ∀ z, (Value.slice b4 m4 d4).ownBlock = some z → z ≠ g8 := fun z hz e => by have := (hC.lt z hz).1; have := n8.lt; omega
          replace n8 := n8.kept hk46 (fun h => h)
          replace hP := hP.keptN hk46
          refine hK.out _ _ (hHeld.thenN hk46) (fun hHeld => ?_)
          clear hK K
          try simp only [Act.put, List.setIfInBounds_toArray, List.set_cons_zero, List.set_cons_succ]
          refine wpAnyH_ready (rs := [7]) (by kernel_rfl) (by simp) ?_
          refine AllReadyH.cons rfl (fun K hK => ?_) ?_
          · refine nstep_alloc_nb (d := 7) (by rfl) (by rfl) (by rfl) ?_
            intro w57 g7 n7 hk57 hg7
            have hb7 : w1.heap.size ≤ g7 := Nat.le_trans hHeld.size hg7
            have x7P : ∀ z, (Value.slice b1 m1 d1).ownBlock = some z → z ≠ g7 := fun z hz e => by have := (hP.lt z hz).2; omega
            have x7C : ∀ z, (Value.slice b4 m4 d4).ownBlock = some z → z ≠ g7 := fun z hz e => by have := (hC.lt z hz).2; omega
            have hne : g7 ≠ g8 := by have := n8.lt; omega
            replace n8 := n8.kept hk57 (fun h => h)
            replace hP := hP.keptN hk57
            replace hC := hC.keptN hk57
            refine hK.out _ _ (hHeld.thenN hk57) (fun hHeld => ?_)
            clear hK K
            try simp only [Act.put, List.setIfInBounds_toArray, List.set_cons_zero, List.set_cons_succ]
            refine wpAnyH_ready (rs := [9]) (by kernel_rfl) (by simp) ?_
            refine AllReadyH.cons rfl (fun K hK => ?_) ?_
            · refine nstep_store_nb (by rfl) (by rfl) (.tmp 7) (.tmp 18) (by rfl) g7 (by rfl) (by rfl) n7 ?_
              clear n7
              intro w69 n7 hk69
              replace n8 := nb_far n8 (fun e => hne e.symm) hk69
              replace hP := hP.kept hk69 (fun z hz e => x7P z hz e)
              replace hC := hC.kept hk69 (fun z hz e => x7C z hz e)
              refine hK.out _ _ (kp_far hHeld hb7 hk69) (fun hHeld => ?_)
              clear hK K
              try simp only [Act.put, List.setIfInBounds_toArray, List.set_cons_zero, List.set_cons_succ]
              refine wpAnyH_ready (rs := [10]) (by kernel_rfl) (by simp) ?_
              refine AllReadyH.cons rfl (fun K hK => ?_) ?_
              · refine nstep_store_nb (by rfl) (by rfl) (.tmp 8) (.tmp 21) (by rfl) g8 (by rfl) (by rfl) n8 ?_
                clear n8
                intro w70 n8 hk70
                replace n7 := nb_far n7 (hne) hk70
                replace hP := hP.kept hk70 (fun z hz e => x8P z hz e)
                replace hC := hC.kept hk70 (fun z hz e => x8C z hz e)
                refine hK.out _ _ (kp_far hHeld hb8 hk70) (fun hHeld => ?_)
                clear hK K
                try simp only [Act.put, List.setIfInBounds_toArray, List.set_cons_zero, List.set_cons_succ]
                refine wpAnyH_done (by kernel_rfl) ?_ _
                try go_wp2
                go_meet
                exact ⟨g7, g8, b1, m1, d1, b4, m4, d4, rfl, rfl, n7, n8, hP.mono (Nat.zero_le _), hC.mono (Nat.zero_le _), hHeld⟩
              exact AllReadyH.nil
            exact AllReadyH.nil
          exact AllReadyH.nil
        refine AllReadyH.cons rfl (fun K hK => ?_) ?_
        · refine nstep_alloc_nb (d := 7) (by rfl) (by rfl) (by rfl) ?_
          intro w57 g7 n7 hk57 hg7
          have hb7 : w1.heap.size ≤ g7 := Nat.le_trans hHeld.size hg7
          have x7P : ∀ z, (Value.slice b1 m1 d1).ownBlock = some z → z ≠ g7 := fun z hz e => by have := (hP.lt z hz).2; omega
          have hne : g7 ≠ g8 := by have := n8.lt; omega
          replace n8 := n8.kept hk57 (fun h => h)
          replace hP := hP.keptN hk57
          refine hK.out _ _ (hHeld.thenN hk57) (fun hHeld => ?_)
          clear hK K
          try simp only [Act.put, List.setIfInBounds_toArray, List.set_cons_zero, List.set_cons_succ]
          refine wpAnyH_ready (rs := [6]) (by kernel_rfl) (by simp) ?_
          refine AllReadyH.cons rfl (fun K hK => ?_) ?_
          · go_simp
            go_wp2_with (go_at_call 17; refine (HC.out _ (S1.thenN hHeld)).mono ?_; rintro e w46 ⟨b4, m4, d4, rfl, hC, hk46⟩)
            have x7C : ∀ z, (Value.slice b4 m4 d4).ownBlock = some z → z ≠ g7 := fun z hz e => by have := (hC.lt z hz).1; have := n7.lt; omega
            have x8C : ∀ z, (Value.slice b4 m4 d4).ownBlock = some z → z ≠ g8 := fun z hz e => by have := (hC.lt z hz).1; have := n8.lt; omega
            replace n7 := n7.kept hk46 (fun h => h)
            replace n8 := n8.kept hk46 (fun h => h)
            replace hP := hP.keptN hk46
            refine hK.out _ _ (hHeld.thenN hk46) (fun hHeld => ?_)
            clear hK K
            try simp only [Act.put, List.setIfInBounds_toArray, List.set_cons_zero, List.set_cons_succ]
            refine wpAnyH_ready (rs := [9]) (by kernel_rfl) (by simp) ?_
            refine AllReadyH.cons rfl (fun K hK => ?_) ?_
            · refine nstep_store_nb (by rfl) (by rfl) (.tmp 7) (.tmp 18) (by rfl) g7 (by rfl) (by rfl) n7 ?_
              clear n7
              intro w69 n7 hk69
              replace n8 := nb_far n8 (fun e => hne e.symm) hk69
              replace hP := hP.kept hk69 (fun z hz e => x7P z hz e)
              replace hC := hC.kept hk69 (fun z hz e => x7C z hz e)
              refine hK.out _ _ (kp_far hHeld hb7 hk69) (fun hHeld => ?_)
              clear hK K
              try simp only [Act.put, List.setIfInBounds_toArray, List.set_cons_zero, List.set_cons_succ]
              refine wpAnyH_ready (rs := [10]) (by kernel_rfl) (by simp) ?_
              refine AllReadyH.cons rfl (fun K hK => ?_) ?_
              · refine nstep_store_nb (by rfl) (by rfl) (.tmp 8) (.tmp 21) (by rfl) g8 (by rfl) (by rfl) n8 ?_
                clear n8
                intro w70 n8 hk70
                replace n7 := nb_far n7 (hne) hk70
                replace hP := hP.kept hk70 (fun z hz e => x8P z hz e)
                replace hC := hC.kept hk70 (fun z hz e => x8C z hz e)
                refine hK.out _ _ (kp_far hHeld hb8 hk70) (fun hHeld => ?_)
                clear hK K
                try simp only [Act.put, List.setIfInBounds_toArray, List.set_cons_zero, List.set_cons_succ]
                refine wpAnyH_done (by kernel_rfl) ?_ _
                try go_wp2
                go_meet
                exact ⟨g7, g8, b1, m1, d1, b4, m4, d4, rfl, rfl, n7, n8, hP.mono (Nat.zero_le _), hC.mono (Nat.zero_le _), hHeld⟩
              exact AllReadyH.nil
            exact AllReadyH.nil
          exact AllReadyH.nil
        exact AllReadyH.nil
      refine AllReadyH.cons rfl (fun K hK => ?_) ?_
      · refine nstep_alloc_nb (d := 7) (by rfl) (by rfl) (by rfl) ?_
        intro w57 g7 n7 hk57 hg7
        have hb7 : w1.heap.size ≤ g7 := Nat.le_trans hHeld.size hg7
        have hne : g7 ≠ g8 := by have := n8.lt; omega
        replace n8 := n8.kept hk57 (fun h => h)
        refine hK.out _ _ (hHeld.thenN hk57) (fun hHeld => ?_)
        clear hK K
        try simp only [Act.put, List.setIfInBounds_toArray, List.set_cons_zero, List.set_cons_succ]
        refine wpAnyH_ready (rs := [3]) (by kernel_rfl) (by simp) ?_
        refine AllReadyH.cons rfl (fun K hK => ?_) ?_
        · go_simp
          go_wp2_with (go_at_call 16; refine (HF.out _ (S1.thenN hHeld)).mono ?_; rintro e w43 ⟨b1, m1, d1, rfl, hP, hk43⟩)
          have x7P : ∀ z, (Value.slice b1 m1 d1).ownBlock = some z → z ≠ g7 := fun z hz e => by have := (hP.lt z hz).1; have := n7.lt; omega
          have x8P : ∀ z, (Value.slice b1 m1 d1).ownBlock = some z → z ≠ g8 := fun z hz e => by have := (hP.lt z hz).1; have := n8.lt; omega
          replace n7 := n7.kept hk43 (fun h => h)
          replace n8 := n8.kept hk43 (fun h => h)
          refine hK.out _ _ (hHeld.thenN hk43) (fun hHeld => ?_)
          clear hK K
          try simp only [Act.put, List.setIfInBounds_toArray, List.set_cons_zero, List.set_cons_succ]
          refine wpAnyH_ready (rs := [6]) (by kernel_rfl) (by simp) ?_
          refine AllReadyH.cons rfl (fun K hK => ?_) ?_
          · go_simp
            go_wp2_with (go_at_call 17; refine (HC.out _ (S1.thenN hHeld)).mono ?_; rintro e w46 ⟨b4, m4, d4, rfl, hC, hk46⟩)
            have x7C : ∀ z, (Value.slice b4 m4 d4).ownBlock = some z → z ≠ g7 := fun z hz e => by have := (hC.lt z hz).1; have := n7.lt; omega
            have x8C : ∀ z, (Value.slice b4 m4 d4).ownBlock = some z → z ≠ g8 := fun z hz e => by have := (hC.lt z hz).1; have := n8.lt; omega
            replace n7 := n7.kept hk46 (fun h => h)
            replace n8 := n8.kept hk46 (fun h => h)
            replace hP := hP.keptN hk46
            refine hK.out _ _ (hHeld.thenN hk46) (fun hHeld => ?_)
            clear hK K
            try simp only [Act.put, List.setIfInBounds_toArray, List.set_cons_zero, List.set_cons_succ]
            refine wpAnyH_ready (rs := [9]) (by kernel_rfl) (by simp) ?_
            refine AllReadyH.cons rfl (fun K hK => ?_) ?_
            · refine nstep_store_nb (by rfl) (by rfl) (.tmp 7) (.tmp 18) (by rfl) g7 (by rfl) (by rfl) n7 ?_
              clear n7
              intro w69 n7 hk69
              replace n8 := nb_far n8 (fun e => hne e.symm) hk69
              replace hP := hP.kept hk69 (fun z hz e => x7P z hz e)
              replace hC := hC.kept hk69 (fun z hz e => x7C z hz e)
              refine hK.out _ _ (kp_far hHeld hb7 hk69) (fun hHeld => ?_)
              clear hK K
              try simp only [Act.put, List.setIfInBounds_toArray, List.set_cons_zero, List.set_cons_succ]
              refine wpAnyH_ready (rs := [10]) (by kernel_rfl) (by simp) ?_
              refine AllReadyH.cons rfl (fun K hK => ?_) ?_
              · refine nstep_store_nb (by rfl) (by rfl) (.tmp 8) (.tmp 21) (by rfl) g8 (by rfl) (by rfl) n8 ?_
                clear n8
                intro w70 n8 hk70
                replace n7 := nb_far n7 (hne) hk70
                replace hP := hP.kept hk70 (fun z hz e => x8P z hz e)
                replace hC := hC.kept hk70 (fun z hz e => x8C z hz e)
                refine hK.out _ _ (kp_far hHeld hb8 hk70) (fun hHeld => ?_)
                clear hK K
                try simp only [Act.put, List.setIfInBounds_toArray, List.set_cons_zero, List.set_cons_succ]
                refine wpAnyH_done (by kernel_rfl) ?_ _
                try go_wp2
                go_meet
                exact ⟨g7, g8, b1, m1, d1, b4, m4, d4, rfl, rfl, n7, n8, hP.mono (Nat.zero_le _), hC.mono (Nat.zero_le _), hHeld⟩
              exact AllReadyH.nil
            exact AllReadyH.nil
          exact AllReadyH.nil
        exact AllReadyH.nil
      exact AllReadyH.nil
    exact AllReadyH.nil

end Go.Proofs.Ytjmkfkmdafjgnaa.nodePuts
