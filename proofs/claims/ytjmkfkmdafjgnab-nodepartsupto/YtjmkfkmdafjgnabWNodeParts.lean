/- The walk of the law NodeParts. Conditions: those that the theorem states. -/
import Derived.Test.YtjmkfkmdafjgnabNLv
import Derived.Test.YtjmkfkmdafjgnabNRefE
import Derived.Test.YtjmkfkmdafjgnabNRefR
import Derived.Test.YtjmkfkmdafjgnabNPs
namespace Go.Proofs.Ytjmkfkmdafjgnab.nodeParts
open Go.RowKit
set_option linter.unusedVariables false

theorem fst_len (n : Nd) : n.fst.ps.length ≤ n.ps.length ∧ n.fst.ks.length ≤ n.ks.length ∧ n.fst.kd.length ≤ n.kd.length ∧ n.snd.ps.length ≤ n.ps.length ∧ n.snd.ks.length ≤ n.ks.length ∧ n.snd.kd.length ≤ n.kd.length := by
  unfold Nd.fst Nd.snd
  cases n.parts <;> cases n.leaf <;> simp <;> omega
theorem parts_facts {n : Nd} (hr : n.right = true) (hpa : n.parts = true) : n.fst.join n.snd n.mid = n ∧ n.fst.right = true ∧ n.snd.right = true ∧ 1 ≤ n.mid.size ∧ (∀ p ∈ n.fst.ps, lessB p.k n.mid = true) ∧ (∀ p ∈ n.snd.ps, lessB p.k n.mid = false) ∧ (n.size ≤ 330 → n.fst.size ≤ 256 ∧ n.snd.size ≤ 256) := by
  unfold Nd.parts at hpa
  cases hl : n.leaf with
  | true => rw [hl] at hpa; simp at hpa; exact split_leaf hr hl hpa
  | false =>
    rw [hl] at hpa
    simp at hpa
    obtain ⟨h1, h2, h3, h4, h5, h6, h7⟩ := split_inner hr hl hpa.1
    exact ⟨h1, h2, h3, h4, by rw [h5]; simp, by rw [h6]; simp, h7⟩
theorem mid_len {n : Nd} (hwf : n.wf) : n.mid.size ≤ maxLen := by
  unfold Nd.mid
  cases n.parts <;> simp
  · exact Nat.zero_le _
  · cases n.leaf <;> simp
    · cases h : n.ks[n.at_]? with
      | none => simp; exact Nat.zero_le _
      | some k => simp; exact hwf.k k (List.mem_of_getElem? h)
    · cases h : n.ps[n.at_]? with
      | none => simp; exact Nat.zero_le _
      | some k => simp; exact (hwf.p k (List.mem_of_getElem? h)).1
set_option maxRecDepth 100000 in
set_option maxHeartbeats 1000000 in
theorem walk (x : Value) (n : Nd) (w : World) (hN : Nv w.heap.size w x n) (hp : n.ps.length ≤ 1048576) (hk : n.ks.length ≤ 1048576) (hd : n.kd.length ≤ 1048576) (hsz : n.size ≤ 4194304) : Calls Try.prog 3 #[x] w fun e w' => e = .returned (.bool true) ∧ w.grownBy w' none := by
  obtain ⟨a1, c1, a2, c2, a3, c3, rfl⟩ := nv_open hN
  have hb := Nb.new w n.leaf (.slice a1 n.ps.length c1) (.slice a2 n.ks.length c2) (.slice a3 n.kd.length c3)
  have hK0 : Kp none' w (w.alloc (.cells #[.bool n.leaf, .slice a1 n.ps.length c1, .slice a2 n.ks.length c2, .slice a3 n.kd.length c3] 26)) := Kp.alloc _ _ _
  have HRi : Hid (∀ W : World, Kp none' w W → Calls Try.prog 5 #[.agg #[.bool n.leaf, .slice a1 n.ps.length c1, .slice a2 n.ks.length c2, .slice a3 n.kd.length c3]] W fun e w' => e = .returned (.bool n.right) ∧ Kp none' W w') := fun W hk' => rright_any _ n _ W (hN.keptN hk') hk'.size (by omega)
  have HSp : Hid (∀ W : World, Kp none' w W → Calls Try.prog 6 #[.agg #[.bool n.leaf, .slice a1 n.ps.length c1, .slice a2 n.ks.length c2, .slice a3 n.kd.length c3]] W fun e w' => ∃ l1 b1 m1 d1 b2 m2 d2 b3 m3 d3 l4 b4 m4 d4 b5 m5 d5 b6 m6 d6, e = .returned (.tuple #[.agg #[.bool l1, .slice b1 m1 d1, .slice b2 m2 d2, .slice b3 m3 d3], .agg #[.bool l4, .slice b4 m4 d4, .slice b5 m5 d5, .slice b6 m6 d6], .string n.mid]) ∧ Nv w'.heap.size w' (.agg #[.bool l1, .slice b1 m1 d1, .slice b2 m2 d2, .slice b3 m3 d3]) n.fst ∧ Nv w'.heap.size w' (.agg #[.bool l4, .slice b4 m4 d4, .slice b5 m5 d5, .slice b6 m6 d6]) n.snd ∧ Kp none' W w') := by
    intro W hk'
    refine (split_any _ n _ W (hN.keptN hk') hk'.size hp hk hd hsz).mono ?_
    rintro e w' ⟨y, z, rfl, hY, hZ, hK⟩
    obtain ⟨b1, d1, b2, d2, b3, d3, rfl⟩ := nv_open hY
    obtain ⟨b4, d4, b5, d5, b6, d6, rfl⟩ := nv_open hZ
    exact ⟨_, _, _, _, _, _, _, _, _, _, _, _, _, _, _, _, _, _, _, _, rfl, hY, hZ, hK⟩
  have HSz : Hid (∀ W : World, Kp none' w W → Calls Try.prog 8 #[.agg #[.bool n.leaf, .slice a1 n.ps.length c1, .slice a2 n.ks.length c2, .slice a3 n.kd.length c3]] W fun e w' => e = .returned (.int .i64 (n.size : Int)) ∧ Kp none' W w') := by
    intro W hk'
    have := nsize_any _ n _ W (hN.keptN hk')
    rw [show wrap64 (n.size : Int) = (n.size : Int) by unfold wrap64; omega] at this
    exact this
  have HN := hide hN
  have HB : Hid (n.ps.length ≤ 1048576 ∧ n.ks.length ≤ 1048576 ∧ n.kd.length ≤ 1048576) := ⟨hp, hk, hd⟩
  have HML := hide (mid_len hN.wf)
  clear hN hp hk hd hsz
  obtain ⟨lp, Hlp⟩ : ∃ l, Hid (n.ps.length = l) := ⟨_, rfl⟩
  obtain ⟨lk, Hlk⟩ : ∃ l, Hid (n.ks.length = l) := ⟨_, rfl⟩
  obtain ⟨ld, Hld⟩ : ∃ l, Hid (n.kd.length = l) := ⟨_, rfl⟩
  obtain ⟨lf, Hlf⟩ : ∃ l, Hid (n.leaf = l) := ⟨_, rfl⟩
  rw [Hlp.out, Hlk.out, Hld.out, Hlf.out] at hb hK0 HRi HSp HSz HN ⊢
  have d0 := hb.c0
  have d1 := hb.c1
  have d2 := hb.c2
  have d3 := hb.c3
  generalize hw0 : w.alloc (.cells #[.bool lf, .slice a1 lp c1, .slice a2 lk c2, .slice a3 ld c3] 26) = w0 at *
  have HLv : Hid (∀ W : World, Kp none' w0 W → Calls Try.prog 4 #[] W fun e w' => e = .returned (.bool true) ∧ Kp none' w0 w' ∧ Nb w' w.heap.size lf (.slice a1 lp c1) (.slice a2 lk c2) (.slice a3 ld c3)) := fun W hk => (lives9_any W).mono (by rintro e w' ⟨rfl, h⟩; exact ⟨rfl, hk.thenN h, hb.kept (hk.thenN h) (fun h => h)⟩)
  cases hr : n.right with
  | false =>
    subst hw0
    go_enter Try.func3, Try.ntmps3
    go_wp2_with (first
      | (go_at_call 4; refine (HLv.out _ (by first | exact Kp.refl _ _ | assumption)).mono ?_; rintro e w1 ⟨rfl, hk1, b1⟩; have e0 := b1.c0; have e1 := b1.c1; have e2 := b1.c2; have e3 := b1.c3)
      | (go_at_call 5; refine (HRi.out _ (hK0.thenN hk1)).mono ?_; rintro e w2 ⟨rfl, hk2⟩; rw [hr]; have hk12 := hk1.thenN hk2)
      | fail)
    go_ret
    exact ⟨rfl, (hK0.thenN (by assumption)).grown⟩
  | true =>
    subst hw0
    go_enter Try.func3, Try.ntmps3
    go_upto_region 3 with (first
      | (go_at_call 4; refine (HLv.out _ (by first | exact Kp.refl _ _ | assumption)).mono ?_; rintro e w1 ⟨rfl, hk1, b1⟩; have e0 := b1.c0; have e1 := b1.c1; have e2 := b1.c2; have e3 := b1.c3)
      | (go_at_call 5; refine (HRi.out _ (hK0.thenN hk1)).mono ?_; rintro e w2 ⟨rfl, hk2⟩; rw [hr])
      | fail)
    have S2 := hK0.thenN (hk1.thenN hk2)
    have n1 := b1.kept hk2 (fun h => h)
    clear e0 e1 e2 e3 b1 hb d0 d1 d2 d3 HLv
    have e0 := n1.c0
    have e1 := n1.c1
    have e2 := n1.c2
    have e3 := n1.c3
    obtain ⟨key, HKY⟩ : ∃ q, Hid (n.mid = q) := ⟨_, rfl⟩
    rw [HKY.out] at HSp
    go_upto_region 4 with (first
      | (go_at_call 6; refine (HSp.out _ S2).mono ?_; rintro e w3 ⟨l1, b1, m1, o1, b2, m2, o2, b3, m3, o3, l4, b4, m4, o4, b5, m5, o5, b6, m6, o6, rfl, hY, hZ, hk3⟩)
      | fail)
    have g3 := (Nb.new w3 l1 (.slice b1 m1 o1) (.slice b2 m2 o2) (.slice b3 m3 o3)).kept (Kp.alloc none' _ (.cells #[.bool l4, .slice b4 m4 o4, .slice b5 m5 o5, .slice b6 m6 o6] 26)) (fun h => h)
    have g4 := Nb.new (w3.alloc (.cells #[.bool l1, .slice b1 m1 o1, .slice b2 m2 o2, .slice b3 m3 o3] 26)) l4 (.slice b4 m4 o4) (.slice b5 m5 o5) (.slice b6 m6 o6)
    rw [show (w3.alloc (.cells #[.bool l1, .slice b1 m1 o1, .slice b2 m2 o2, .slice b3 m3 o3] 26)).heap.size = w3.heap.size + 1 by simp] at g4
    have hkA : Kp none' w3 ((w3.alloc (.cells #[.bool l1, .slice b1 m1 o1, .slice b2 m2 o2, .slice b3 m3 o3] 26)).alloc (.cells #[.bool l4, .slice b4 m4 o4, .slice b5 m5 o5, .slice b6 m6 o6] 26)) := (Kp.alloc _ _ _).thenN (Kp.alloc _ _ _)
    have g1 := n1.kept (hk3.thenN hkA) (fun h => h)
    have SW := S2.thenN (hk3.thenN hkA)
    clear e0 e1 e2 e3
    generalize hW : (w3.alloc (.cells #[.bool l1, .slice b1 m1 o1, .slice b2 m2 o2, .slice b3 m3 o3] 26)).alloc (.cells #[.bool l4, .slice b4 m4 o4, .slice b5 m5 o5, .slice b6 m6 o6] 26) = wc at *
    have hA := hY.keptN hkA
    have hB := hZ.keptN hkA
    have HSZ3 := hide hkA.size
    have f0 : ∀ W : World, Kp none' wc W → W.cell? ⟨w.heap.size, 0, none⟩ = some (.bool lf) := fun W hk => (g1.kept hk (fun h => h)).c0
    have f1 : ∀ W : World, Kp none' wc W → W.cell? ⟨w.heap.size, 1, none⟩ = some (.slice a1 lp c1) := fun W hk => (g1.kept hk (fun h => h)).c1
    have f2 : ∀ W : World, Kp none' wc W → W.cell? ⟨w.heap.size, 2, none⟩ = some (.slice a2 lk c2) := fun W hk => (g1.kept hk (fun h => h)).c2
    have f3 : ∀ W : World, Kp none' wc W → W.cell? ⟨w.heap.size, 3, none⟩ = some (.slice a3 ld c3) := fun W hk => (g1.kept hk (fun h => h)).c3
    have p0 : ∀ W : World, Kp none' wc W → W.cell? ⟨w3.heap.size, 0, none⟩ = some (.bool l1) := fun W hk => (g3.kept hk (fun h => h)).c0
    have p1 : ∀ W : World, Kp none' wc W → W.cell? ⟨w3.heap.size, 1, none⟩ = some (.slice b1 m1 o1) := fun W hk => (g3.kept hk (fun h => h)).c1
    have p2 : ∀ W : World, Kp none' wc W → W.cell? ⟨w3.heap.size, 2, none⟩ = some (.slice b2 m2 o2) := fun W hk => (g3.kept hk (fun h => h)).c2
    have p3 : ∀ W : World, Kp none' wc W → W.cell? ⟨w3.heap.size, 3, none⟩ = some (.slice b3 m3 o3) := fun W hk => (g3.kept hk (fun h => h)).c3
    have q0 : ∀ W : World, Kp none' wc W → W.cell? ⟨w3.heap.size + 1, 0, none⟩ = some (.bool l4) := fun W hk => (g4.kept hk (fun h => h)).c0
    have q1 : ∀ W : World, Kp none' wc W → W.cell? ⟨w3.heap.size + 1, 1, none⟩ = some (.slice b4 m4 o4) := fun W hk => (g4.kept hk (fun h => h)).c1
    have q2 : ∀ W : World, Kp none' wc W → W.cell? ⟨w3.heap.size + 1, 2, none⟩ = some (.slice b5 m5 o5) := fun W hk => (g4.kept hk (fun h => h)).c2
    have q3 : ∀ W : World, Kp none' wc W → W.cell? ⟨w3.heap.size + 1, 3, none⟩ = some (.slice b6 m6 o6) := fun W hk => (g4.kept hk (fun h => h)).c3
    cases hpa : n.parts with
    | false =>
      obtain ⟨e1, e2, e3⟩ := split_none hpa
      have hkey : key = ⟨#[]⟩ := by rw [← HKY.out]; exact e3
      subst hkey
      rw [e1] at hA
      rw [e2] at hB
      have HSa : Hid (∀ W : World, Kp none' wc W → Calls Try.prog 7 #[.agg #[.bool l1, .slice b1 m1 o1, .slice b2 m2 o2, .slice b3 m3 o3], .agg #[.bool lf, .slice a1 lp c1, .slice a2 lk c2, .slice a3 ld c3]] W fun e w' => e = .returned (.bool true) ∧ Kp none' wc w') := fun W hk => (rsame_any _ _ n _ _ W (hA.keptN hk) (HN.out.keptN (SW.thenN hk))).mono (by rintro e w' ⟨rfl, h⟩; exact ⟨rfl, hk.thenN h⟩)
      have HSb : Hid (∀ W : World, Kp none' wc W → Calls Try.prog 8 #[.agg #[.bool l4, .slice b4 m4 o4, .slice b5 m5 o5, .slice b6 m6 o6]] W fun e w' => e = .returned (.int .i64 4) ∧ Kp none' wc w') := by
        intro W hk
        refine (nsize_any _ _ _ W (hB.keptN hk)).mono ?_
        rintro e w' ⟨rfl, h⟩
        exact ⟨reti (by show wrap64 ((4 : Nat) : Int) = 4; unfold wrap64; omega), hk.thenN h⟩
      have x0 := f0 wc (Kp.refl _ _)
      have x1 := f1 wc (Kp.refl _ _)
      have x2 := f2 wc (Kp.refl _ _)
      have x3 := f3 wc (Kp.refl _ _)
      have y0 := p0 wc (Kp.refl _ _)
      have y1 := p1 wc (Kp.refl _ _)
      have y2 := p2 wc (Kp.refl _ _)
      have y3 := p3 wc (Kp.refl _ _)
      clear e1 e2 e3 hA hB hY hZ
      go_wp2_with (first
        | (go_at_call 7; refine (HSa.out _ (Kp.refl _ _)).mono ?_; rintro e w4 ⟨rfl, hk4⟩; have z0 := q0 w4 hk4; have z1 := q1 w4 hk4; have z2 := q2 w4 hk4; have z3 := q3 w4 hk4)
        | (go_at_call 8; refine (HSb.out _ hk4).mono ?_; rintro e w5 ⟨rfl, hk5⟩)
        | fail)
      go_ret
      exact ⟨rfl, (SW.thenN hk5).grown⟩
    | true =>
      obtain ⟨t1, t2, t3, t4, t5, t6, t7⟩ := parts_facts hr hpa
      obtain ⟨v1, v2, v3, v4, v5, v6⟩ := fst_len n
      rw [HKY.out] at t1 t4 t5 t6 HML
      have hkne : (key.toList == (⟨#[]⟩ : ByteArray).toList) = false := by
        rw [textEq, decide_eq_false_iff_not]
        intro e
        rw [e] at t4
        cases t4
      have hkem : key.toList.isEmpty = false := by
        cases hkl : key.toList with
        | nil =>
          rw [ByteArray.toList_eq] at hkl
          have := size_list key
          rw [hkl] at this
          simp at this
          omega
        | cons _ _ => rfl
      have HJo : Hid (∀ W : World, Kp none' wc W → Calls Try.prog 9 #[.agg #[.bool l1, .slice b1 m1 o1, .slice b2 m2 o2, .slice b3 m3 o3], .agg #[.bool l4, .slice b4 m4 o4, .slice b5 m5 o5, .slice b6 m6 o6], .string key] W fun e w' => ∃ y, e = .returned y ∧ Nv w'.heap.size w' y n ∧ Kp none' wc w') := by
        intro W hk
        have hB' := HB.out
        refine (join_any _ _ n.fst n.snd _ key W (hA.keptN hk) (hB.keptN hk) (Nat.le_trans HSZ3.out hk.size) HML.out (by omega) (by omega) (by omega) (by omega) (by omega) (by omega)).mono ?_
        rintro e w' ⟨y, rfl, h1, h2⟩
        rw [t1] at h1
        exact ⟨y, rfl, h1, hk.thenN h2⟩
      have HSa : Hid (∀ (W : World) (y : Value) (B : Nat), Kp none' wc W → Nv B W y n → Calls Try.prog 7 #[y, .agg #[.bool lf, .slice a1 lp c1, .slice a2 lk c2, .slice a3 ld c3]] W fun e w' => e = .returned (.bool true) ∧ Kp none' wc w') := fun W y B hk h => (rsame_any y _ n _ _ W h (HN.out.keptN (SW.thenN hk))).mono (by rintro e w' ⟨rfl, h⟩; exact ⟨rfl, hk.thenN h⟩)
      have HRa : Hid (∀ (W : World) (x : Value), x = .agg #[.bool l1, .slice b1 m1 o1, .slice b2 m2 o2, .slice b3 m3 o3] → Kp none' wc W → Calls Try.prog 5 #[x] W fun e w' => e = .returned (.bool true) ∧ Kp none' wc w') := by
        intro W x hx hk
        subst hx
        have hB' := HB.out
        refine (rright_any _ n.fst _ W (hA.keptN hk) (Nat.le_trans HSZ3.out hk.size) (by omega)).mono ?_
        rintro e w' ⟨rfl, h⟩
        exact ⟨by rw [t2], hk.thenN h⟩
      have HRb : Hid (∀ (W : World) (x : Value), x = .agg #[.bool l4, .slice b4 m4 o4, .slice b5 m5 o5, .slice b6 m6 o6] → Kp none' wc W → Calls Try.prog 5 #[x] W fun e w' => e = .returned (.bool true) ∧ Kp none' wc w') := by
        intro W x hx hk
        subst hx
        have hB' := HB.out
        refine (rright_any _ n.snd _ W (hB.keptN hk) (Nat.le_trans HSZ3.out hk.size) (by omega)).mono ?_
        rintro e w' ⟨rfl, h⟩
        exact ⟨by rw [t3], hk.thenN h⟩
      have dc : Kp none' wc wc.drew := Kp.drew _ _
      obtain ⟨⟨pvA, kvA, dvA, eA, hPA, _, _⟩, _⟩ := id hA
      obtain ⟨⟨pvB, kvB, dvB, eB, hPB, _, _⟩, _⟩ := id hB
      have eA1 : pvA = .slice b1 m1 o1 := by cases eA; rfl
      have eB1 : pvB = .slice b4 m4 o4 := by cases eB; rfl
      subst eA1 eB1
      obtain ⟨_, _, eA2, hla, hca, hea⟩ := hPA
      obtain ⟨_, _, eB2, hlb, hcb, heb⟩ := hPB
      cases eA2
      cases eB2
      unfold maxLen at hca hcb
      have HEA := hide hea
      have HEB := hide heb
      have HT5 := hide t5
      have HT6 := hide t6
      have HT7 := hide t7
      have HAv := hide hA
      have HBv := hide hB
      obtain ⟨pa, Hpa⟩ : ∃ q, Hid (n.fst.ps = q) := ⟨_, rfl⟩
      obtain ⟨pb, Hpb⟩ : ∃ q, Hid (n.snd.ps = q) := ⟨_, rfl⟩
      rw [Hpa.out] at HEA HT5 hla p1 HRa HJo
      rw [Hpb.out] at HEB HT6 hlb q1 HRb HJo
      clear eA eB hea heb t1 t2 t3 t4 t5 t6 t7 v1 v2 v3 v4 v5 v6 hA hB hY hZ
      go_upto_region 6 with fail
      go_region_held_law (fun W => Kp none' wc W) (first | assumption | exact dc) (first
        | (go_at_call 9; refine (HJo.out _ (by assumption)).mono ?_; rintro e w4 ⟨y4, rfl, hN4, S4⟩)
        | (go_at_call 7; refine (HSa.out _ _ _ (by assumption) hN4).mono ?_; rintro e w5 ⟨rfl, S5⟩)
        | (go_at_call 5; refine (HRa.out _ _ (by with_reducible rfl) (by assumption)).mono ?_; rintro e w6 ⟨rfl, S6⟩)
        | (go_at_call 5; refine (HRb.out _ _ (by with_reducible rfl) (by assumption)).mono ?_; rintro e w7 ⟨rfl, S7⟩))
      have HSA : Hid (∀ (W : World) (x : Value), x = .agg #[.bool l1, .slice b1 pa.length o1, .slice b2 m2 o2, .slice b3 m3 o3] → Kp none' wc W → Calls Try.prog 8 #[x] W fun e w' => e = .returned (.int .i64 (wrap64 (n.fst.size : Int))) ∧ Kp none' wc w') := by
        intro W x hx hk
        subst hx
        rw [← Hpa.out]
        exact (nsize_any _ n.fst _ W (HAv.out.keptN hk)).mono (by rintro e w' ⟨rfl, h⟩; exact ⟨rfl, hk.thenN h⟩)
      have HSB : Hid (∀ (W : World) (x : Value), x = .agg #[.bool l4, .slice b4 pb.length o4, .slice b5 m5 o5, .slice b6 m6 o6] → Kp none' wc W → Calls Try.prog 8 #[x] W fun e w' => e = .returned (.int .i64 (wrap64 (n.snd.size : Int))) ∧ Kp none' wc w') := by
        intro W x hx hk
        subst hx
        rw [← Hpb.out]
        exact (nsize_any _ n.snd _ W (HBv.out.keptN hk)).mono (by rintro e w' ⟨rfl, h⟩; exact ⟨rfl, hk.thenN h⟩)
      have HSN : Hid (∀ (W : World) (x : Value), x = .agg #[.bool lf, .slice a1 lp c1, .slice a2 lk c2, .slice a3 ld c3] → Kp none' wc W → Calls Try.prog 8 #[x] W fun e w' => e = .returned (.int .i64 (n.size : Int)) ∧ Kp none' wc w') := by
        intro W x hx hk
        subst hx
        exact (HSz.out W (SW.thenN hk)).mono (by rintro e w' ⟨rfl, h⟩; exact ⟨rfl, hk.thenN h⟩)
      clear HJo HSa HRa HRb HSz HRi HSp HN hN4 dc
      go_wp2
      go_loopw [6] (fun t wr => ∃ j : Nat, j ≤ pa.length ∧ t = .int .i64 j ∧ Kp none' wc wr) (fun t _ => pa.length - (intOf t).toNat)
      case atStart => exact ⟨0, Nat.zero_le _, rfl, by assumption⟩
      case round =>
        obtain ⟨j, hj, rfl, hKr⟩ := hrel
        have x1 := p1 wr hKr
        by_cases hlt : j < pa.length
        · obtain ⟨bb, oo, rfl, _, hc', _⟩ := HEA.out j hlt
          have hc := hKr.cell hc' (fun h => h)
          clear hc'
          have hlt' : (j : Int) < (pa.length : Int) := by omega
          have hle := HT5.out _ (List.getElem_mem hlt)
          generalize pa[j] = y at *
          have u1 := lss_b y.k key
          have u2 := lss_b key y.k
          have u3 := textEq y.k key
          rw [hle] at u1
          rw [lessB_asym hle] at u2
          rw [decide_eq_false (fun e => by rw [e, lessB_irrefl] at hle; cases hle)] at u3
          clear hle
          go_wp2
          go_roundw
          case rel => exact ⟨j + 1, by omega, by go_num, hKr⟩
          case measure => simp [intOf]; omega
        · have hlt' : ¬ (j : Int) < (pa.length : Int) := by omega
          go_wp2
          go_loopw [7] (fun t wr => ∃ j : Nat, j ≤ pb.length ∧ t = .int .i64 j ∧ Kp none' wc wr) (fun t _ => pb.length - (intOf t).toNat)
          case atStart => exact ⟨0, Nat.zero_le _, rfl, hKr⟩
          case round =>
            obtain ⟨j, hj, rfl, hKr⟩ := hrel
            have x1 := q1 _ hKr
            by_cases hlt : j < pb.length
            · obtain ⟨bb, oo, rfl, _, hc', _⟩ := HEB.out j hlt
              have hc := hKr.cell hc' (fun h => h)
              clear hc'
              have hlt' : (j : Int) < (pb.length : Int) := by omega
              have hle := HT6.out _ (List.getElem_mem hlt)
              generalize pb[j] = y at *
              have u1 := lss_b y.k key
              rw [hle] at u1
              clear hle
              go_wp2
              go_roundw
              case rel => exact ⟨j + 1, by omega, by go_num, hKr⟩
              case measure => simp [intOf]; omega
            · have hlt' : ¬ (j : Int) < (pb.length : Int) := by omega
              have y0 := f0 _ hKr
              have y1 := f1 _ hKr
              have y2 := f2 _ hKr
              have y3 := f3 _ hKr
              by_cases h330 : n.size ≤ 330
              · have HQ := hide (HT7.out h330)
                have hg : ¬ (330 : Int) < (n.size : Int) := by omega
                have hs1 : wrap64 (n.fst.size : Int) = (n.fst.size : Int) := by have := HQ.out; unfold wrap64; omega
                have hs2 : wrap64 (n.snd.size : Int) = (n.snd.size : Int) := by have := HQ.out; unfold wrap64; omega
                rw [hs1] at HSA
                rw [hs2] at HSB
                clear hs1 hs2
                have hl1 : (n.fst.size : Int) ≤ 256 := by have := HQ.out; omega
                have hl2 : (n.snd.size : Int) ≤ 256 := by have := HQ.out; omega
                generalize n.size = s0 at *
                generalize n.fst.size = s1 at *
                generalize n.snd.size = s2 at *
                clear h330
                go_wp2_with (first
                  | (go_at_call 8; refine (HSN.out _ _ (by with_reducible rfl) (by assumption)).mono ?_; rintro e w8 ⟨rfl, S8⟩; have z0 := p0 w8 S8; have z1 := p1 w8 S8; have z2 := p2 w8 S8; have z3 := p3 w8 S8)
                  | (go_at_call 8; refine (HSA.out _ _ (by with_reducible rfl) (by assumption)).mono ?_; rintro e w9 ⟨rfl, S9⟩; have z0 := q0 w9 S9; have z1 := q1 w9 S9; have z2 := q2 w9 S9; have z3 := q3 w9 S9)
                  | (go_at_call 8; refine (HSB.out _ _ (by with_reducible rfl) (by assumption)).mono ?_; rintro e w10 ⟨rfl, S10⟩)
                  | fail)
                go_ret
                exact ⟨rfl, (SW.thenN S10).grown⟩
              · have hg : (330 : Int) < (n.size : Int) := by omega
                generalize n.size = s0 at *
                clear h330
                go_wp2_with (first
                  | (go_at_call 8; refine (HSN.out _ _ (by with_reducible rfl) (by assumption)).mono ?_; rintro e w8 ⟨rfl, S8⟩)
                  | fail)
                go_ret
                exact ⟨rfl, (SW.thenN S8).grown⟩

end Go.Proofs.Ytjmkfkmdafjgnab.nodeParts
