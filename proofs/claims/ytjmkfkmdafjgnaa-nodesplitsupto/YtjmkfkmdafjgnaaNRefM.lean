/- Contracts, over the turned program: what the document's Split answers of inner nodes, and of nodes that have too little. Conditions: those that each theorem states. -/
import Derived.Test.YtjmkfkmdafjgnaaNRefL
import Derived.Test.YtjmkfkmdafjgnaaNPo
import Derived.Test.YtjmkfkmdafjgnaaNParts
namespace Go.Proofs.Ytjmkfkmdafjgnaa
open Go Go.RowKit
set_option linter.unusedVariables false

theorem sumK_at (l : List ByteArray) : ∀ (i : Nat) (h : i < l.length), kSize l[i] ≤ (l.map kSize).sum := by
  induction l with
  | nil => intro i h; simp at h
  | cons x l ih =>
    intro i h
    rcases i with _ | i
    · simp
    · have := ih i (by simpa using h)
      simp only [List.map_cons, List.sum_cons, List.getElem_cons_succ]
      omega

set_option maxRecDepth 100000 in
set_option maxHeartbeats 2000000 in
theorem rsplit9_inner (x : Value) (n : Nd) (B : Nat) (w : World) (hN : Nv B w x n) (hB : B ≤ w.heap.size) (hl : n.leaf = false) (h3 : 3 ≤ n.ks.length) (hkl : n.kd.length = n.ks.length + 1) (hp : n.ks.length ≤ 1048576) (hsz : n.size ≤ 4194304) :
    Calls Try.prog 23 #[x] w fun e w' => ∃ y z, e = .returned (.tuple #[y, z, .string n.mid]) ∧ Nv B w' y n.fst ∧ Nv B w' z n.snd ∧ Kp none' w w' := by
  have HPA : Hid (n.parts = true) := by show _ = _; unfold Nd.parts; simp [hl, h3, hkl]
  have HF : Hid (n.fst = ⟨false, [], n.ks.take n.at_, n.kd.take (n.at_ + 1)⟩) := by show _ = _; unfold Nd.fst; rw [HPA.out]; simp [hl]
  have HS : Hid (n.snd = ⟨false, [], n.ks.drop (n.at_ + 1), n.kd.drop (n.at_ + 1)⟩) := by show _ = _; unfold Nd.snd; rw [HPA.out]; simp [hl]
  have HM : Hid (n.mid = n.ks.getD n.at_ ⟨#[]⟩) := by show _ = _; unfold Nd.mid; rw [HPA.out]; simp [hl]
  have HAT : Hid (n.at_ = splG (fun j => kSize (n.ks.getD j ⟨#[]⟩)) (n.size - 4) (n.ks.length - 2) n.ks.length 1 (kSize (n.ks.getD 0 ⟨#[]⟩))) := by show _ = _; unfold Nd.at_; rw [hl]; rfl
  have HSUM : Hid (n.size = 4 + (n.ks.map kSize).sum) := by show _ = _; unfold Nd.size; simp [hl]
  have HATL := hide (at_inner hl h3)
  rw [HF.out, HS.out, HM.out]
  obtain ⟨at_, HA⟩ : ∃ q, Hid (n.at_ = q) := ⟨_, rfl⟩
  rw [HA.out]
  rw [HA.out] at HAT HATL
  obtain ⟨sz, HZ⟩ : ∃ q, Hid (n.size = q) := ⟨_, rfl⟩
  have HW : Hid (wrap64 (n.size : Int) = (sz : Int)) := by show _ = _; rw [HZ.out]; rw [HZ.out] at hsz; unfold wrap64; omega
  rw [HZ.out] at HAT HSUM hsz
  have hN' := hN
  have hwf := hN.wf
  obtain ⟨⟨pv, kv, dv, rfl, hP, hS, hD⟩, _⟩ := hN'
  obtain ⟨lf, ps, ks, kd⟩ := n
  dsimp only at *
  subst hl
  have HSR0 := hide hS
  have HDR0 := hide hD
  obtain ⟨a, c, rfl, hlc, hcm, hel⟩ := hS
  obtain ⟨a3, c3, rfl, hlc3, hcm3, hel3⟩ := hD
  unfold maxLen at hcm hcm3
  obtain ⟨b, o, rfl, hbB, hx1⟩ := hel 0 (by omega)
  obtain ⟨b3, o3, rfl, hbB3, hx2⟩ := hel3 0 (by omega)
  clear hx1 hx2 hel3
  have HEL : Hid (∀ i (h : i < ks.length), w.cell? ⟨b, o + i, none⟩ = some (.string ks[i])) := by
    intro i h
    obtain ⟨b', o', e, _, h1⟩ := hel i h
    cases e
    exact h1
  clear hel
  obtain ⟨o0, ho0⟩ : ∃ q, q = Obj.cells #[.bool false, pv, .slice (some ⟨b, o, none⟩) ks.length c, .slice (some ⟨b3, o3, none⟩) kd.length c3] 26 := ⟨_, rfl⟩
  obtain ⟨o2, ho2⟩ : ∃ q, q = Obj.cells #[.bool false, .slice none 0 0, .slice none 0 0, .slice none 0 0] 26 := ⟨_, rfl⟩
  have hx0 : Nb (w.alloc o0) w.heap.size false pv (.slice (some ⟨b, o, none⟩) ks.length c) (.slice (some ⟨b3, o3, none⟩) kd.length c3) := by rw [ho0]; exact Nb.new _ _ _ _ _
  have hy0 : Nb ((w.alloc o0).alloc o2) (w.heap.size + 1) false (.slice none 0 0) (.slice none 0 0) (.slice none 0 0) := by
    have := Nb.new (w.alloc o0) false (.slice none 0 0) (.slice none 0 0) (.slice none 0 0)
    rw [show (w.alloc o0).heap.size = w.heap.size + 1 by simp, ← ho2] at this
    exact this
  have hr0 : Nb (((w.alloc o0).alloc o2).alloc o2) (w.heap.size + 1 + 1) false (.slice none 0 0) (.slice none 0 0) (.slice none 0 0) := by
    have := Nb.new ((w.alloc o0).alloc o2) false (.slice none 0 0) (.slice none 0 0) (.slice none 0 0)
    rw [show ((w.alloc o0).alloc o2).heap.size = w.heap.size + 1 + 1 by simp, ← ho2] at this
    exact this
  have hx1 := (hx0.kept (Kp.alloc none' _ o2) (fun h => h)).kept (Kp.alloc none' _ o2) (fun h => h)
  have hy1 := hy0.kept (Kp.alloc none' _ o2) (fun h => h)
  have hK0 : Kp none' w (((w.alloc o0).alloc o2).alloc o2) := ((Kp.alloc _ _ _).thenN (Kp.alloc _ _ _)).thenN (Kp.alloc _ _ _)
  subst ho0 ho2
  have hN0 := hN.keptN hK0
  obtain ⟨a4, c4, e4, _⟩ := id hP
  subst e4
  have h3i : 3 ≤ (ks.length : Int) := by omega
  have hq' : ((kd.length : Int) == wrap64 ((ks.length : Int) + 1)) = true := by rw [beq_iff_eq]; unfold wrap64; omega
  have hq2 : ((kd.length : Int) == (ks.length : Int) + 1) = true := by rw [beq_iff_eq]; omega
  have HKL := hide hkl
  have HML : Hid (3 ≤ ks.length ∧ ks.length ≤ 1048576) := ⟨h3, hp⟩
  have HBK : Hid (b < w.heap.size ∧ b3 < w.heap.size) := by show _ ∧ _; omega
  have HCAP : Hid (ks.length ≤ c ∧ kd.length ≤ c3) := ⟨hlc, hlc3⟩
  have HSZ := hide hsz
  have h0i : (0 : Int) < (ks.length : Int) := by omega
  have h0n : 0 < ks.length := by omega
  have p0 := hK0.cell (HEL.out 0 (by omega)) (fun h => h)
  simp only [Nat.add_zero] at p0
  obtain ⟨z0, HZ0⟩ : ∃ q, Hid (kSize ks[0] = q) := ⟨kSize ks[0], rfl⟩
  have HZb : Hid (z0 ≤ 4194304) := by
    show _ ≤ _
    have := sumK_at ks 0 (by omega)
    have := HSUM.out
    have := HZ0.out
    omega
  have HI0 : Hid (z0 = ((ks.take 1).map kSize).sum) := by
    show _ = _
    rw [show (1 : Nat) = 0 + 1 from rfl, sum_takeK kSize ks 0 (by omega), HZ0.out]
    simp
  have HG0 : Hid (splG (fun j => kSize (ks.getD j ⟨#[]⟩)) (sz - 4) (ks.length - 2) ks.length 1 z0 = at_) := by
    show _ = _
    have e : (ks.getD 0 ⟨#[]⟩) = ks[0] := by rw [List.getD_eq_getElem?_getD, List.getElem?_eq_getElem (by omega)]; rfl
    rw [HAT.out, e, HZ0.out]
  have HZ0' : Hid (z0 = 3 + ks[0].size ∧ z0 ≤ 4194304) := by
    have e1 := HZ0.out
    have e2 := HZb.out
    unfold kSize at e1
    exact ⟨e1.symm, e2⟩
  generalize ks[0] = y0 at p0 HZ0'
  clear hN hP hlc3 hcm3 hkl
  go_enter Try.func23, Try.ntmps23
  go_upto_region 9 with fail
  have d0 := hx1.c0
  go_upto_region 12 with (first
    | (go_at_call 11; refine (rsize9_any _ ⟨false, ps, ks, kd⟩ B _ hN0).mono ?_; rintro e w1 ⟨rfl, hK1⟩; rw [HW.out])
    | fail)
  have hx := hx1.kept hK1 (fun h => h)
  have hy := hy1.kept hK1 (fun h => h)
  have hr := hr0.kept hK1 (fun h => h)
  have hKb := hK0.thenN hK1
  have c2 := hx.c2
  have c3' := hx.c3
  have p0' := hK1.cell p0 (fun h => h)
  clear hx0 hy0 hr0 hx1 hy1 hN0 p0 d0 hq' hq2 hK0 hK1
  have hz1 : y0.size ≤ 4194304 := by have := HZ0'.out; omega
  go_wp2
  have HZQ := hide HZ0'.out
  clear hz1 HZ0' p0' c2 c3' h0i HZ0
  go_loopw [9, 10] (fun t u wr => ∃ i part f : Nat, 1 ≤ i ∧ i ≤ ks.length - 2 ∧ t = .int .i64 i ∧ u = .int .i64 part ∧ Hid (part = ((ks.take i).map kSize).sum) ∧ Hid (splG (fun j => kSize (ks.getD j ⟨#[]⟩)) (sz - 4) (ks.length - 2) f i part = at_) ∧ Hid (ks.length ≤ i + f) ∧ Kp none' w1 wr) (fun t _ _ => ks.length - (intOf t).toNat)
  case atStart => exact ⟨1, z0, ks.length, Nat.le_refl _, by have := HML.out; omega, rfl, (congrArg (Value.int .i64) (by have := HZQ.out; omega)), HI0, HG0, (by show _ ≤ _; omega), Kp.refl _ _⟩
  case round =>
    obtain ⟨i, part, f, hi1, hil, rfl, rfl, HP, HG, HL, hK⟩ := hrel
    have hx3 := hx.kept hK (fun h => h)
    have c2 := hx3.c2
    have hin : i < ks.length := by have := HML.out; omega
    have HPb : Hid (part + kSize ks[i] + 4 ≤ sz ∧ sz ≤ 4194304) := by
      show _ ∧ _
      have h1 := sum_takeK kSize ks i hin
      have h3 : ((ks.take (i + 1)).map kSize).sum ≤ (ks.map kSize).sum := by
        conv => rhs; rw [← List.take_append_drop (i + 1) ks, List.map_append, List.sum_append]
        exact Nat.le_add_right _ _
      have := HP.out
      have := HSUM.out
      have := HSZ.out
      omega
    have hks2 : ((ks.length : Int) - 2) = ((ks.length - 2 : Nat) : Int) := by have := HML.out; omega
    by_cases hc : i < ks.length - 2 ∧ 2 * part < sz - 4
    · obtain ⟨f', rfl⟩ : ∃ f', f = f' + 1 := ⟨f - 1, by have := HL.out; have := HML.out; omega⟩
      have HG2 : Hid (splG (fun j => kSize (ks.getD j ⟨#[]⟩)) (sz - 4) (ks.length - 2) f' (i + 1) (part + kSize ks[i]) = at_) := by
        show _ = _
        have e : (ks.getD i ⟨#[]⟩) = ks[i] := by rw [List.getD_eq_getElem?_getD, List.getElem?_eq_getElem hin]; rfl
        rw [← HG.out, splG, if_pos hc, e]
      have HP2 : Hid (part + kSize ks[i] = ((ks.take (i + 1)).map kSize).sum) := by show _ = _; rw [sum_takeK kSize ks i hin, HP.out]
      have hc1 : (i : Int) < (ks.length : Int) - 2 := by omega
      have hc2 : 2 * (part : Int) < (sz : Int) - 4 := by omega
      have hii : (i : Int) < (ks.length : Int) := by omega
      have q0 := (hKb.thenN hK).cell (HEL.out i hin) (fun h => h)
      generalize ks[i] = y at *
      obtain ⟨z1, HZ1⟩ : ∃ q, Hid (kSize y = q) := ⟨_, rfl⟩
      have HPc : Hid (part + z1 ≤ 4194304 ∧ z1 = 3 + y.size) := by
        have h1 := HPb.out
        have h2 := HZ1.out
        rw [h2] at h1
        unfold kSize at h2
        show _ ∧ _
        omega
      rw [HZ1.out] at HG2 HP2
      have hpb : part ≤ 4194304 := by have := HPc.out; omega
      have hzb : y.size ≤ 4194304 := by have := HPc.out; omega
      clear hc hks2 HPb
      go_wp2
      go_roundw
      case rel => exact ⟨i + 1, part + z1, f', by omega, by omega, by go_num, congrArg (Value.int .i64) (by have := HPc.out; omega), HP2, HG2, (by have := HL.out; show _ ≤ _; omega), hK⟩
      case measure => simp [intOf]; omega
    · have HE : Hid (at_ = i) := by
        show _ = _
        rw [← HG.out]
        cases f with
        | zero => rfl
        | succ f => rw [splG, if_neg hc]
      have q0 := (hKb.thenN hK).cell (HEL.out i hin) (fun h => h)
      have hy3 := hy.kept hK (fun h => h)
      have hr3 := hr.kept hK (fun h => h)
      have c3' := hx3.c3
      have HMk : Hid (ks.getD at_ ⟨#[]⟩ = ks[i]) := by
        show _ = _
        rw [HE.out, List.getD_eq_getElem?_getD, List.getElem?_eq_getElem hin]
        rfl
      generalize ks[i] = k1 at q0 HMk HPb
      have n2 := hy3.kept (Kp.drew none' wr) (fun h => h)
      have n3 := hr3.kept (Kp.drew none' wr) (fun h => h)
      have rc2 : ∀ W : World, Kp (fun k => w.heap.size < k) wr W → W.cell? ⟨w.heap.size, 2, none⟩ = some (.slice (some ⟨b, o, none⟩) ks.length c) := fun W hk => hk.cell c2 (fun h => by omega)
      have rc3 : ∀ W : World, Kp (fun k => w.heap.size < k) wr W → W.cell? ⟨w.heap.size, 3, none⟩ = some (.slice (some ⟨b3, o3, none⟩) kd.length c3) := fun W hk => hk.cell c3' (fun h => by omega)
      have rk : ∀ W : World, Kp (fun k => w.heap.size < k) wr W → W.cell? ⟨b, o + i, none⟩ = some (.string k1) := fun W hk => hk.cell q0 (fun h => by have := HBK.out; omega)
      have HSW : Hid (∀ W : World, Kp (fun k => w.heap.size < k) wr W → Sl Value.string B W (.slice (some ⟨b, o, none⟩) ks.length c) ks) := fun W hk => (HSR0.out.keptN (hKb.thenN hK)).kept hk (fun k hk' h => by omega)
      have HDW : Hid (∀ W : World, Kp (fun k => w.heap.size < k) wr W → Sl (Value.int .i64) B W (.slice (some ⟨b3, o3, none⟩) kd.length c3) kd) := fun W hk => (HDR0.out.keptN (hKb.thenN hK)).kept hk (fun k hk' h => by omega)
      obtain ⟨i1, HI1⟩ : ∃ i1, Hid (i + 1 = i1) := ⟨_, rfl⟩
      have HWA : Hid (∀ p ∈ ks.take i, p.size ≤ maxLen) := fun p hp => hwf.k p (List.mem_of_mem_take hp)
      have HWB : Hid (∀ z ∈ kd.take i1, -9223372036854775808 ≤ z ∧ z < 9223372036854775808) := fun p hp => hwf.d p (List.mem_of_mem_take hp)
      have HWC : Hid (∀ p ∈ ks.drop i1, p.size ≤ maxLen) := fun p hp => hwf.k p (List.mem_of_mem_drop hp)
      have HWD : Hid (∀ z ∈ kd.drop i1, -9223372036854775808 ≤ z ∧ z < 9223372036854775808) := fun p hp => hwf.d p (List.mem_of_mem_drop hp)
      have HIF := hide (idx_facts i i1 ks.length kd.length c c3 HI1.out (by have := HML.out; omega) HKL.out HCAP.out.1 HCAP.out.2 (by have := HML.out; omega))
      clear hx3 hy3 hr3 hx hy hr q0 HP HG
      by_cases hc0 : i < ks.length - 2
      · have hc1 : (i : Int) < (ks.length : Int) - 2 := by omega
        have hc2 : ¬ 2 * (part : Int) < (sz : Int) - 4 := by omega
        have hpb : part ≤ 4194304 := by have := HPb.out; omega
        clear hc hc0 hks2
        go_upto_region 16 with fail
        clear hc1 hc2 hpb c2 c3'
        obtain ⟨hi1', hi1w, q1, q2, q3, q4, q5, q6, q7, q8, q9, hnc, r6, r7, r8, r9, hnd⟩ := HIF.out
        clear hi1w
        have hnc' : ¬ i1 = c := fun e => hnc e.symm
        have hnd' : ¬ i1 = c3 := fun e => hnd e.symm
        refine wp_region_held_drew (S := fun W => Kp (fun k => w.heap.size < k) wr W) (by kernel_rfl) (Kp.drew _ _) (fun hHeld => ?_)
        refine take_at (i := 0) (d := 116) (v := ?_) rfl rfl (by kernel_rfl) (by kernel_rfl) (by kernel_rfl) (fun _ _ _ h => h) (Or.inl ⟨by rfl, ?_⟩) (by assumption) ?_
        rotate_left
        · intro W hSW
          try dsimp only at hSW
          have g1 := rc2 W hSW
          have g2 := rc3 W hSW
          have gk := rk W hSW
          go_simp
          try with_reducible rfl
        try simp only [Act.put, List.setIfInBounds_toArray, List.set_cons_zero, List.set_cons_succ]
        refine take_at (i := 1) (d := 117) (v := ?_) rfl rfl (by kernel_rfl) (by kernel_rfl) (by kernel_rfl) (fun _ _ _ h => h) (Or.inl ⟨by rfl, ?_⟩) (by assumption) ?_
        rotate_left
        · intro W hSW
          try dsimp only at hSW
          have g1 := rc2 W hSW
          have g2 := rc3 W hSW
          have gk := rk W hSW
          go_simp
          try with_reducible rfl
        try simp only [Act.put, List.setIfInBounds_toArray, List.set_cons_zero, List.set_cons_succ]
        refine take_at (i := 2) (d := 118) (v := ?_) rfl rfl (by kernel_rfl) (by kernel_rfl) (by kernel_rfl) (fun _ _ _ h => h) (Or.inl ⟨by rfl, ?_⟩) (by assumption) ?_
        rotate_left
        · intro W hSW
          try dsimp only at hSW
          have g1 := rc2 W hSW
          have g2 := rc3 W hSW
          have gk := rk W hSW
          go_simp
          try with_reducible rfl
        try simp only [Act.put, List.setIfInBounds_toArray, List.set_cons_zero, List.set_cons_succ]
        refine take_at (i := 3) (d := 119) (v := ?_) rfl rfl (by kernel_rfl) (by kernel_rfl) (by kernel_rfl) (fun _ _ _ h => h) (Or.inl ⟨by rfl, ?_⟩) (by assumption) ?_
        rotate_left
        · intro W hSW
          try dsimp only at hSW
          have g1 := rc2 W hSW
          have g2 := rc3 W hSW
          have gk := rk W hSW
          go_simp
          try with_reducible rfl
        try simp only [Act.put, List.setIfInBounds_toArray, List.set_cons_zero, List.set_cons_succ]
        refine take_at (i := 4) (d := 120) (v := ?_) rfl rfl (by kernel_rfl) (by kernel_rfl) (by kernel_rfl) (fun _ _ _ h => h) (Or.inl ⟨by rfl, ?_⟩) (by assumption) ?_
        rotate_left
        · intro W hSW
          try dsimp only at hSW
          have g1 := rc2 W hSW
          have g2 := rc3 W hSW
          have gk := rk W hSW
          go_simp
          try with_reducible rfl
        try simp only [Act.put, List.setIfInBounds_toArray, List.set_cons_zero, List.set_cons_succ]
        refine take_at (i := 5) (d := 121) (v := ?_) rfl rfl (by kernel_rfl) (by kernel_rfl) (by kernel_rfl) (fun _ _ _ h => h) (Or.inl ⟨by rfl, ?_⟩) (by assumption) ?_
        rotate_left
        · intro W hSW
          try dsimp only at hSW
          have g1 := rc2 W hSW
          have g2 := rc3 W hSW
          have gk := rk W hSW
          go_simp
          try with_reducible rfl
        try simp only [Act.put, List.setIfInBounds_toArray, List.set_cons_zero, List.set_cons_succ]
        refine take_at (i := 6) (d := 122) (v := ?_) rfl rfl (by kernel_rfl) (by kernel_rfl) (by kernel_rfl) (fun _ _ _ h => h) (Or.inl ⟨by rfl, ?_⟩) (by assumption) ?_
        rotate_left
        · intro W hSW
          try dsimp only at hSW
          have g1 := rc2 W hSW
          have g2 := rc3 W hSW
          have gk := rk W hSW
          go_simp
          try with_reducible rfl
        try simp only [Act.put, List.setIfInBounds_toArray, List.set_cons_zero, List.set_cons_succ]
        refine take_at (i := 7) (d := 123) (v := ?_) rfl rfl (by kernel_rfl) (by kernel_rfl) (by kernel_rfl) (fun _ _ _ h => h) (Or.inl ⟨by rfl, ?_⟩) (by assumption) ?_
        rotate_left
        · intro W hSW
          try dsimp only at hSW
          have g1 := rc2 W hSW
          have g2 := rc3 W hSW
          have gk := rk W hSW
          go_simp
          try with_reducible rfl
        try simp only [Act.put, List.setIfInBounds_toArray, List.set_cons_zero, List.set_cons_succ]
        refine take_at (i := 8) (d := 124) (v := ?_) rfl rfl (by kernel_rfl) (by kernel_rfl) (by kernel_rfl) (fun _ _ _ h => h) (Or.inl ⟨by rfl, ?_⟩) (by assumption) ?_
        rotate_left
        · intro W hSW
          try dsimp only at hSW
          have g1 := rc2 W hSW
          have g2 := rc3 W hSW
          have gk := rk W hSW
          go_simp
          try with_reducible rfl
        try simp only [Act.put, List.setIfInBounds_toArray, List.set_cons_zero, List.set_cons_succ]
        refine take_at (i := 9) (d := 125) (v := ?_) rfl rfl (by kernel_rfl) (by kernel_rfl) (by kernel_rfl) (fun _ _ _ h => h) (Or.inl ⟨by rfl, ?_⟩) (by assumption) ?_
        rotate_left
        · intro W hSW
          try dsimp only at hSW
          have g1 := rc2 W hSW
          have g2 := rc3 W hSW
          have gk := rk W hSW
          go_simp
          try with_reducible rfl
        try simp only [Act.put, List.setIfInBounds_toArray, List.set_cons_zero, List.set_cons_succ]
        refine take_at (i := 10) (d := 126) (v := ?_) rfl rfl (by kernel_rfl) (by kernel_rfl) (by kernel_rfl) (fun _ _ _ h => h) (Or.inl ⟨by rfl, ?_⟩) (by assumption) ?_
        rotate_left
        · intro W hSW
          try dsimp only at hSW
          have g1 := rc2 W hSW
          have g2 := rc3 W hSW
          have gk := rk W hSW
          go_simp
          try with_reducible rfl
        try simp only [Act.put, List.setIfInBounds_toArray, List.set_cons_zero, List.set_cons_succ]
        refine take_at (i := 11) (d := 127) (v := ?_) rfl rfl (by kernel_rfl) (by kernel_rfl) (by kernel_rfl) (fun _ _ _ h => h) (Or.inl ⟨by rfl, ?_⟩) (by assumption) ?_
        rotate_left
        · intro W hSW
          try dsimp only at hSW
          have g1 := rc2 W hSW
          have g2 := rc3 W hSW
          have gk := rk W hSW
          go_simp
          try with_reducible rfl
        try simp only [Act.put, List.setIfInBounds_toArray, List.set_cons_zero, List.set_cons_succ]
        refine take_at (i := 12) (d := 128) (v := ?_) rfl rfl (by kernel_rfl) (by kernel_rfl) (by kernel_rfl) (fun _ _ _ h => h) (Or.inl ⟨by rfl, ?_⟩) (by assumption) ?_
        rotate_left
        · intro W hSW
          try dsimp only at hSW
          have g1 := rc2 W hSW
          have g2 := rc3 W hSW
          have gk := rk W hSW
          go_simp
          try with_reducible rfl
        try simp only [Act.put, List.setIfInBounds_toArray, List.set_cons_zero, List.set_cons_succ]
        refine take_at (i := 13) (d := 129) (v := ?_) rfl rfl (by kernel_rfl) (by kernel_rfl) (by kernel_rfl) (fun _ _ _ h => h) (Or.inl ⟨by rfl, ?_⟩) (by assumption) ?_
        rotate_left
        · intro W hSW
          try dsimp only at hSW
          have g1 := rc2 W hSW
          have g2 := rc3 W hSW
          have gk := rk W hSW
          go_simp
          try with_reducible rfl
        try simp only [Act.put, List.setIfInBounds_toArray, List.set_cons_zero, List.set_cons_succ]
        refine take_at (i := 14) (d := 130) (v := ?_) rfl rfl (by kernel_rfl) (by kernel_rfl) (by kernel_rfl) (fun _ _ _ h => h) (Or.inl ⟨by rfl, ?_⟩) (by assumption) ?_
        rotate_left
        · intro W hSW
          try dsimp only at hSW
          have g1 := rc2 W hSW
          have g2 := rc3 W hSW
          have gk := rk W hSW
          go_simp
          try with_reducible rfl
        try simp only [Act.put, List.setIfInBounds_toArray, List.set_cons_zero, List.set_cons_succ]
        refine take_at (i := 15) (d := 131) (v := ?_) rfl rfl (by kernel_rfl) (by kernel_rfl) (by kernel_rfl) (fun _ _ _ h => h) (Or.inl ⟨by rfl, ?_⟩) (by assumption) ?_
        rotate_left
        · intro W hSW
          try dsimp only at hSW
          have g1 := rc2 W hSW
          have g2 := rc3 W hSW
          have gk := rk W hSW
          go_simp
          try with_reducible rfl
        try simp only [Act.put, List.setIfInBounds_toArray, List.set_cons_zero, List.set_cons_succ]
        refine take_at (i := 16) (d := 132) (v := ?_) rfl rfl (by kernel_rfl) (by kernel_rfl) (by kernel_rfl) (fun _ _ _ h => h) (Or.inl ⟨by rfl, ?_⟩) (by assumption) ?_
        rotate_left
        · intro W hSW
          try dsimp only at hSW
          have g1 := rc2 W hSW
          have g2 := rc3 W hSW
          have gk := rk W hSW
          go_simp
          try with_reducible rfl
        try simp only [Act.put, List.setIfInBounds_toArray, List.set_cons_zero, List.set_cons_succ]
        refine take_at (i := 17) (d := 133) (v := ?_) rfl rfl (by kernel_rfl) (by kernel_rfl) (by kernel_rfl) (fun _ _ _ h => h) (Or.inl ⟨by rfl, ?_⟩) (by assumption) ?_
        rotate_left
        · intro W hSW
          try dsimp only at hSW
          have g1 := rc2 W hSW
          have g2 := rc3 W hSW
          have gk := rk W hSW
          go_simp
          try with_reducible rfl
        try simp only [Act.put, List.setIfInBounds_toArray, List.set_cons_zero, List.set_cons_succ]
        refine take_at (i := 18) (d := 134) (v := ?_) rfl rfl (by kernel_rfl) (by kernel_rfl) (by kernel_rfl) (fun _ _ _ h => h) (Or.inl ⟨by rfl, ?_⟩) (by assumption) ?_
        rotate_left
        · intro W hSW
          try dsimp only at hSW
          have g1 := rc2 W hSW
          have g2 := rc3 W hSW
          have gk := rk W hSW
          go_simp
          try with_reducible rfl
        try simp only [Act.put, List.setIfInBounds_toArray, List.set_cons_zero, List.set_cons_succ]
        refine take_at (i := 19) (d := 135) (v := ?_) rfl rfl (by kernel_rfl) (by kernel_rfl) (by kernel_rfl) (fun _ _ _ h => h) (Or.inl ⟨by rfl, ?_⟩) (by assumption) ?_
        rotate_left
        · intro W hSW
          try dsimp only at hSW
          have g1 := rc2 W hSW
          have g2 := rc3 W hSW
          have gk := rk W hSW
          go_simp
          try with_reducible rfl
        try simp only [Act.put, List.setIfInBounds_toArray, List.set_cons_zero, List.set_cons_succ]
        refine take_at (i := 20) (d := 136) (v := ?_) rfl rfl (by kernel_rfl) (by kernel_rfl) (by kernel_rfl) (fun _ _ _ h => h) (Or.inl ⟨by rfl, ?_⟩) (by assumption) ?_
        rotate_left
        · intro W hSW
          try dsimp only at hSW
          have g1 := rc2 W hSW
          have g2 := rc3 W hSW
          have gk := rk W hSW
          go_simp
          try with_reducible rfl
        try simp only [Act.put, List.setIfInBounds_toArray, List.set_cons_zero, List.set_cons_succ]
        refine take_at (i := 21) (d := 137) (v := ?_) rfl rfl (by kernel_rfl) (by kernel_rfl) (by kernel_rfl) (fun _ _ _ h => h) (Or.inl ⟨by rfl, ?_⟩) (by assumption) ?_
        rotate_left
        · intro W hSW
          try dsimp only at hSW
          have g1 := rc2 W hSW
          have g2 := rc3 W hSW
          have gk := rk W hSW
          go_simp
          try with_reducible rfl
        try simp only [Act.put, List.setIfInBounds_toArray, List.set_cons_zero, List.set_cons_succ]
        refine take_at (i := 22) (d := 138) (v := ?_) rfl rfl (by kernel_rfl) (by kernel_rfl) (by kernel_rfl) (fun _ _ _ h => h) (Or.inl ⟨by rfl, ?_⟩) (by assumption) ?_
        rotate_left
        · intro W hSW
          try dsimp only at hSW
          have g1 := rc2 W hSW
          have g2 := rc3 W hSW
          have gk := rk W hSW
          go_simp
          try with_reducible rfl
        try simp only [Act.put, List.setIfInBounds_toArray, List.set_cons_zero, List.set_cons_succ]
        refine take_at (i := 23) (d := 139) (v := ?_) rfl rfl (by kernel_rfl) (by kernel_rfl) (by kernel_rfl) (fun _ _ _ h => h) (Or.inl ⟨by rfl, ?_⟩) (by assumption) ?_
        rotate_left
        · intro W hSW
          try dsimp only at hSW
          have g1 := rc2 W hSW
          have g2 := rc3 W hSW
          have gk := rk W hSW
          go_simp
          try with_reducible rfl
        try simp only [Act.put, List.setIfInBounds_toArray, List.set_cons_zero, List.set_cons_succ]
        refine take_at (i := 24) (d := 140) (v := ?_) rfl rfl (by kernel_rfl) (by kernel_rfl) (by kernel_rfl) (fun _ _ _ h => h) (Or.inl ⟨by rfl, ?_⟩) (by assumption) ?_
        rotate_left
        · intro W hSW
          try dsimp only at hSW
          have g1 := rc2 W hSW
          have g2 := rc3 W hSW
          have gk := rk W hSW
          go_simp
          try with_reducible rfl
        try simp only [Act.put, List.setIfInBounds_toArray, List.set_cons_zero, List.set_cons_succ]
        refine take_at (i := 25) (d := 141) (v := ?_) rfl rfl (by kernel_rfl) (by kernel_rfl) (by kernel_rfl) (fun _ _ _ h => h) (Or.inl ⟨by rfl, ?_⟩) (by assumption) ?_
        rotate_left
        · intro W hSW
          try dsimp only at hSW
          have g1 := rc2 W hSW
          have g2 := rc3 W hSW
          have gk := rk W hSW
          go_simp
          try with_reducible rfl
        try simp only [Act.put, List.setIfInBounds_toArray, List.set_cons_zero, List.set_cons_succ]
        refine wpAnyH_ready (rs := [26]) (by kernel_rfl) (by simp) ?_
        refine AllReadyH.cons rfl (fun K hK => ?_) ?_
        · refine nstep_store_nb (by rfl) (by rfl) (.tmp 2) (.tmp 125) (by rfl) (w.heap.size + 1) (by rfl) (by rfl) n2 ?_
          clear n2
          intro wx26 n2 hk26
          replace n3 := nb_far n3 (by omega) hk26
          refine hK.out _ _ (hHeld.trans hk26 (fun _ _ h => h) (fun k _ e => by unfold only at e; show _ < _; omega)) (fun hHeld => ?_)
          clear hK K
          try simp only [Act.put, List.setIfInBounds_toArray, List.set_cons_zero, List.set_cons_succ]
          refine wpAnyH_ready (rs := [27]) (by kernel_rfl) (by simp) ?_
          refine AllReadyH.cons rfl (fun K hK => ?_) ?_
          · refine nstep_store_nb (by rfl) (by rfl) (.tmp 3) (.tmp 136) (by rfl) (w.heap.size + 1 + 1) (by rfl) (by rfl) n3 ?_
            clear n3
            intro wx27 n3 hk27
            replace n2 := nb_far n2 (by omega) hk27
            refine hK.out _ _ (hHeld.trans hk27 (fun _ _ h => h) (fun k _ e => by unfold only at e; show _ < _; omega)) (fun hHeld => ?_)
            clear hK K
            try simp only [Act.put, List.setIfInBounds_toArray, List.set_cons_zero, List.set_cons_succ]
            refine take_at (i := 28) (d := 4) (v := ?_) rfl rfl (by kernel_rfl) (by kernel_rfl) (by kernel_rfl) (fun _ _ _ h => h) (Or.inl ⟨by rfl, ?_⟩) (by assumption) ?_
            rotate_left
            · intro W hSW
              try dsimp only at hSW
              go_simp
              try with_reducible rfl
            try simp only [Act.put, List.setIfInBounds_toArray, List.set_cons_zero, List.set_cons_succ]
            refine wpAnyH_done (by kernel_rfl) ?_ _
            try go_wp2
            try rw [if_neg hnc, if_neg hnd] at n3
            refine bodyPost_ret (results_nb2t rfl _ (w.heap.size + 1) (w.heap.size + 1 + 1) _ (.string k1) rfl rfl rfl n2 n3) rfl ?_
            rw [HMk.out, HE.out, HI1.out]
            have hSf := HSW.out _ hHeld
            have hDf := HDW.out _ hHeld
            exact ⟨_, _, rfl, ⟨⟨_, _, _, rfl, Prs.nil _ _, hSf.take i q3, hDf.take i1 r7⟩, ⟨by simp, HWA.out, HWB.out⟩⟩, ⟨⟨_, _, _, rfl, Prs.nil _ _, hSf.dropI i1 q7, hDf.dropI i1 r7⟩, ⟨by simp, HWC.out, HWD.out⟩⟩, (hKb.thenN hK).trans hHeld (fun _ _ h => h) (fun k hk h => absurd hk (by have h' : w.heap.size < k := h; omega))⟩
          exact AllReadyH.nil
        exact AllReadyH.nil
      · have hc1 : ¬ (i : Int) < (ks.length : Int) - 2 := by omega
        clear hc hc0 hks2
        go_upto_region 16 with fail
        clear hc1 c2 c3'
        obtain ⟨hi1', hi1w, q1, q2, q3, q4, q5, q6, q7, q8, q9, hnc, r6, r7, r8, r9, hnd⟩ := HIF.out
        clear hi1w
        have hnc' : ¬ i1 = c := fun e => hnc e.symm
        have hnd' : ¬ i1 = c3 := fun e => hnd e.symm
        refine wp_region_held_drew (S := fun W => Kp (fun k => w.heap.size < k) wr W) (by kernel_rfl) (Kp.drew _ _) (fun hHeld => ?_)
        refine take_at (i := 0) (d := 116) (v := ?_) rfl rfl (by kernel_rfl) (by kernel_rfl) (by kernel_rfl) (fun _ _ _ h => h) (Or.inl ⟨by rfl, ?_⟩) (by assumption) ?_
        rotate_left
        · intro W hSW
          try dsimp only at hSW
          have g1 := rc2 W hSW
          have g2 := rc3 W hSW
          have gk := rk W hSW
          go_simp
          try with_reducible rfl
        try simp only [Act.put, List.setIfInBounds_toArray, List.set_cons_zero, List.set_cons_succ]
        refine take_at (i := 1) (d := 117) (v := ?_) rfl rfl (by kernel_rfl) (by kernel_rfl) (by kernel_rfl) (fun _ _ _ h => h) (Or.inl ⟨by rfl, ?_⟩) (by assumption) ?_
        rotate_left
        · intro W hSW
          try dsimp only at hSW
          have g1 := rc2 W hSW
          have g2 := rc3 W hSW
          have gk := rk W hSW
          go_simp
          try with_reducible rfl
        try simp only [Act.put, List.setIfInBounds_toArray, List.set_cons_zero, List.set_cons_succ]
        refine take_at (i := 2) (d := 118) (v := ?_) rfl rfl (by kernel_rfl) (by kernel_rfl) (by kernel_rfl) (fun _ _ _ h => h) (Or.inl ⟨by rfl, ?_⟩) (by assumption) ?_
        rotate_left
        · intro W hSW
          try dsimp only at hSW
          have g1 := rc2 W hSW
          have g2 := rc3 W hSW
          have gk := rk W hSW
          go_simp
          try with_reducible rfl
        try simp only [Act.put, List.setIfInBounds_toArray, List.set_cons_zero, List.set_cons_succ]
        refine take_at (i := 3) (d := 119) (v := ?_) rfl rfl (by kernel_rfl) (by kernel_rfl) (by kernel_rfl) (fun _ _ _ h => h) (Or.inl ⟨by rfl, ?_⟩) (by assumption) ?_
        rotate_left
        · intro W hSW
          try dsimp only at hSW
          have g1 := rc2 W hSW
          have g2 := rc3 W hSW
          have gk := rk W hSW
          go_simp
          try with_reducible rfl
        try simp only [Act.put, List.setIfInBounds_toArray, List.set_cons_zero, List.set_cons_succ]
        refine take_at (i := 4) (d := 120) (v := ?_) rfl rfl (by kernel_rfl) (by kernel_rfl) (by kernel_rfl) (fun _ _ _ h => h) (Or.inl ⟨by rfl, ?_⟩) (by assumption) ?_
        rotate_left
        · intro W hSW
          try dsimp only at hSW
          have g1 := rc2 W hSW
          have g2 := rc3 W hSW
          have gk := rk W hSW
          go_simp
          try with_reducible rfl
        try simp only [Act.put, List.setIfInBounds_toArray, List.set_cons_zero, List.set_cons_succ]
        refine take_at (i := 5) (d := 121) (v := ?_) rfl rfl (by kernel_rfl) (by kernel_rfl) (by kernel_rfl) (fun _ _ _ h => h) (Or.inl ⟨by rfl, ?_⟩) (by assumption) ?_
        rotate_left
        · intro W hSW
          try dsimp only at hSW
          have g1 := rc2 W hSW
          have g2 := rc3 W hSW
          have gk := rk W hSW
          go_simp
          try with_reducible rfl
        try simp only [Act.put, List.setIfInBounds_toArray, List.set_cons_zero, List.set_cons_succ]
        refine take_at (i := 6) (d := 122) (v := ?_) rfl rfl (by kernel_rfl) (by kernel_rfl) (by kernel_rfl) (fun _ _ _ h => h) (Or.inl ⟨by rfl, ?_⟩) (by assumption) ?_
        rotate_left
        · intro W hSW
          try dsimp only at hSW
          have g1 := rc2 W hSW
          have g2 := rc3 W hSW
          have gk := rk W hSW
          go_simp
          try with_reducible rfl
        try simp only [Act.put, List.setIfInBounds_toArray, List.set_cons_zero, List.set_cons_succ]
        refine take_at (i := 7) (d := 123) (v := ?_) rfl rfl (by kernel_rfl) (by kernel_rfl) (by kernel_rfl) (fun _ _ _ h => h) (Or.inl ⟨by rfl, ?_⟩) (by assumption) ?_
        rotate_left
        · intro W hSW
          try dsimp only at hSW
          have g1 := rc2 W hSW
          have g2 := rc3 W hSW
          have gk := rk W hSW
          go_simp
          try with_reducible rfl
        try simp only [Act.put, List.setIfInBounds_toArray, List.set_cons_zero, List.set_cons_succ]
        refine take_at (i := 8) (d := 124) (v := ?_) rfl rfl (by kernel_rfl) (by kernel_rfl) (by kernel_rfl) (fun _ _ _ h => h) (Or.inl ⟨by rfl, ?_⟩) (by assumption) ?_
        rotate_left
        · intro W hSW
          try dsimp only at hSW
          have g1 := rc2 W hSW
          have g2 := rc3 W hSW
          have gk := rk W hSW
          go_simp
          try with_reducible rfl
        try simp only [Act.put, List.setIfInBounds_toArray, List.set_cons_zero, List.set_cons_succ]
        refine take_at (i := 9) (d := 125) (v := ?_) rfl rfl (by kernel_rfl) (by kernel_rfl) (by kernel_rfl) (fun _ _ _ h => h) (Or.inl ⟨by rfl, ?_⟩) (by assumption) ?_
        rotate_left
        · intro W hSW
          try dsimp only at hSW
          have g1 := rc2 W hSW
          have g2 := rc3 W hSW
          have gk := rk W hSW
          go_simp
          try with_reducible rfl
        try simp only [Act.put, List.setIfInBounds_toArray, List.set_cons_zero, List.set_cons_succ]
        refine take_at (i := 10) (d := 126) (v := ?_) rfl rfl (by kernel_rfl) (by kernel_rfl) (by kernel_rfl) (fun _ _ _ h => h) (Or.inl ⟨by rfl, ?_⟩) (by assumption) ?_
        rotate_left
        · intro W hSW
          try dsimp only at hSW
          have g1 := rc2 W hSW
          have g2 := rc3 W hSW
          have gk := rk W hSW
          go_simp
          try with_reducible rfl
        try simp only [Act.put, List.setIfInBounds_toArray, List.set_cons_zero, List.set_cons_succ]
        refine take_at (i := 11) (d := 127) (v := ?_) rfl rfl (by kernel_rfl) (by kernel_rfl) (by kernel_rfl) (fun _ _ _ h => h) (Or.inl ⟨by rfl, ?_⟩) (by assumption) ?_
        rotate_left
        · intro W hSW
          try dsimp only at hSW
          have g1 := rc2 W hSW
          have g2 := rc3 W hSW
          have gk := rk W hSW
          go_simp
          try with_reducible rfl
        try simp only [Act.put, List.setIfInBounds_toArray, List.set_cons_zero, List.set_cons_succ]
        refine take_at (i := 12) (d := 128) (v := ?_) rfl rfl (by kernel_rfl) (by kernel_rfl) (by kernel_rfl) (fun _ _ _ h => h) (Or.inl ⟨by rfl, ?_⟩) (by assumption) ?_
        rotate_left
        · intro W hSW
          try dsimp only at hSW
          have g1 := rc2 W hSW
          have g2 := rc3 W hSW
          have gk := rk W hSW
          go_simp
          try with_reducible rfl
        try simp only [Act.put, List.setIfInBounds_toArray, List.set_cons_zero, List.set_cons_succ]
        refine take_at (i := 13) (d := 129) (v := ?_) rfl rfl (by kernel_rfl) (by kernel_rfl) (by kernel_rfl) (fun _ _ _ h => h) (Or.inl ⟨by rfl, ?_⟩) (by assumption) ?_
        rotate_left
        · intro W hSW
          try dsimp only at hSW
          have g1 := rc2 W hSW
          have g2 := rc3 W hSW
          have gk := rk W hSW
          go_simp
          try with_reducible rfl
        try simp only [Act.put, List.setIfInBounds_toArray, List.set_cons_zero, List.set_cons_succ]
        refine take_at (i := 14) (d := 130) (v := ?_) rfl rfl (by kernel_rfl) (by kernel_rfl) (by kernel_rfl) (fun _ _ _ h => h) (Or.inl ⟨by rfl, ?_⟩) (by assumption) ?_
        rotate_left
        · intro W hSW
          try dsimp only at hSW
          have g1 := rc2 W hSW
          have g2 := rc3 W hSW
          have gk := rk W hSW
          go_simp
          try with_reducible rfl
        try simp only [Act.put, List.setIfInBounds_toArray, List.set_cons_zero, List.set_cons_succ]
        refine take_at (i := 15) (d := 131) (v := ?_) rfl rfl (by kernel_rfl) (by kernel_rfl) (by kernel_rfl) (fun _ _ _ h => h) (Or.inl ⟨by rfl, ?_⟩) (by assumption) ?_
        rotate_left
        · intro W hSW
          try dsimp only at hSW
          have g1 := rc2 W hSW
          have g2 := rc3 W hSW
          have gk := rk W hSW
          go_simp
          try with_reducible rfl
        try simp only [Act.put, List.setIfInBounds_toArray, List.set_cons_zero, List.set_cons_succ]
        refine take_at (i := 16) (d := 132) (v := ?_) rfl rfl (by kernel_rfl) (by kernel_rfl) (by kernel_rfl) (fun _ _ _ h => h) (Or.inl ⟨by rfl, ?_⟩) (by assumption) ?_
        rotate_left
        · intro W hSW
          try dsimp only at hSW
          have g1 := rc2 W hSW
          have g2 := rc3 W hSW
          have gk := rk W hSW
          go_simp
          try with_reducible rfl
        try simp only [Act.put, List.setIfInBounds_toArray, List.set_cons_zero, List.set_cons_succ]
        refine take_at (i := 17) (d := 133) (v := ?_) rfl rfl (by kernel_rfl) (by kernel_rfl) (by kernel_rfl) (fun _ _ _ h => h) (Or.inl ⟨by rfl, ?_⟩) (by assumption) ?_
        rotate_left
        · intro W hSW
          try dsimp only at hSW
          have g1 := rc2 W hSW
          have g2 := rc3 W hSW
          have gk := rk W hSW
          go_simp
          try with_reducible rfl
        try simp only [Act.put, List.setIfInBounds_toArray, List.set_cons_zero, List.set_cons_succ]
        refine take_at (i := 18) (d := 134) (v := ?_) rfl rfl (by kernel_rfl) (by kernel_rfl) (by kernel_rfl) (fun _ _ _ h => h) (Or.inl ⟨by rfl, ?_⟩) (by assumption) ?_
        rotate_left
        · intro W hSW
          try dsimp only at hSW
          have g1 := rc2 W hSW
          have g2 := rc3 W hSW
          have gk := rk W hSW
          go_simp
          try with_reducible rfl
        try simp only [Act.put, List.setIfInBounds_toArray, List.set_cons_zero, List.set_cons_succ]
        refine take_at (i := 19) (d := 135) (v := ?_) rfl rfl (by kernel_rfl) (by kernel_rfl) (by kernel_rfl) (fun _ _ _ h => h) (Or.inl ⟨by rfl, ?_⟩) (by assumption) ?_
        rotate_left
        · intro W hSW
          try dsimp only at hSW
          have g1 := rc2 W hSW
          have g2 := rc3 W hSW
          have gk := rk W hSW
          go_simp
          try with_reducible rfl
        try simp only [Act.put, List.setIfInBounds_toArray, List.set_cons_zero, List.set_cons_succ]
        refine take_at (i := 20) (d := 136) (v := ?_) rfl rfl (by kernel_rfl) (by kernel_rfl) (by kernel_rfl) (fun _ _ _ h => h) (Or.inl ⟨by rfl, ?_⟩) (by assumption) ?_
        rotate_left
        · intro W hSW
          try dsimp only at hSW
          have g1 := rc2 W hSW
          have g2 := rc3 W hSW
          have gk := rk W hSW
          go_simp
          try with_reducible rfl
        try simp only [Act.put, List.setIfInBounds_toArray, List.set_cons_zero, List.set_cons_succ]
        refine take_at (i := 21) (d := 137) (v := ?_) rfl rfl (by kernel_rfl) (by kernel_rfl) (by kernel_rfl) (fun _ _ _ h => h) (Or.inl ⟨by rfl, ?_⟩) (by assumption) ?_
        rotate_left
        · intro W hSW
          try dsimp only at hSW
          have g1 := rc2 W hSW
          have g2 := rc3 W hSW
          have gk := rk W hSW
          go_simp
          try with_reducible rfl
        try simp only [Act.put, List.setIfInBounds_toArray, List.set_cons_zero, List.set_cons_succ]
        refine take_at (i := 22) (d := 138) (v := ?_) rfl rfl (by kernel_rfl) (by kernel_rfl) (by kernel_rfl) (fun _ _ _ h => h) (Or.inl ⟨by rfl, ?_⟩) (by assumption) ?_
        rotate_left
        · intro W hSW
          try dsimp only at hSW
          have g1 := rc2 W hSW
          have g2 := rc3 W hSW
          have gk := rk W hSW
          go_simp
          try with_reducible rfl
        try simp only [Act.put, List.setIfInBounds_toArray, List.set_cons_zero, List.set_cons_succ]
        refine take_at (i := 23) (d := 139) (v := ?_) rfl rfl (by kernel_rfl) (by kernel_rfl) (by kernel_rfl) (fun _ _ _ h => h) (Or.inl ⟨by rfl, ?_⟩) (by assumption) ?_
        rotate_left
        · intro W hSW
          try dsimp only at hSW
          have g1 := rc2 W hSW
          have g2 := rc3 W hSW
          have gk := rk W hSW
          go_simp
          try with_reducible rfl
        try simp only [Act.put, List.setIfInBounds_toArray, List.set_cons_zero, List.set_cons_succ]
        refine take_at (i := 24) (d := 140) (v := ?_) rfl rfl (by kernel_rfl) (by kernel_rfl) (by kernel_rfl) (fun _ _ _ h => h) (Or.inl ⟨by rfl, ?_⟩) (by assumption) ?_
        rotate_left
        · intro W hSW
          try dsimp only at hSW
          have g1 := rc2 W hSW
          have g2 := rc3 W hSW
          have gk := rk W hSW
          go_simp
          try with_reducible rfl
        try simp only [Act.put, List.setIfInBounds_toArray, List.set_cons_zero, List.set_cons_succ]
        refine take_at (i := 25) (d := 141) (v := ?_) rfl rfl (by kernel_rfl) (by kernel_rfl) (by kernel_rfl) (fun _ _ _ h => h) (Or.inl ⟨by rfl, ?_⟩) (by assumption) ?_
        rotate_left
        · intro W hSW
          try dsimp only at hSW
          have g1 := rc2 W hSW
          have g2 := rc3 W hSW
          have gk := rk W hSW
          go_simp
          try with_reducible rfl
        try simp only [Act.put, List.setIfInBounds_toArray, List.set_cons_zero, List.set_cons_succ]
        refine wpAnyH_ready (rs := [26]) (by kernel_rfl) (by simp) ?_
        refine AllReadyH.cons rfl (fun K hK => ?_) ?_
        · refine nstep_store_nb (by rfl) (by rfl) (.tmp 2) (.tmp 125) (by rfl) (w.heap.size + 1) (by rfl) (by rfl) n2 ?_
          clear n2
          intro wx26 n2 hk26
          replace n3 := nb_far n3 (by omega) hk26
          refine hK.out _ _ (hHeld.trans hk26 (fun _ _ h => h) (fun k _ e => by unfold only at e; show _ < _; omega)) (fun hHeld => ?_)
          clear hK K
          try simp only [Act.put, List.setIfInBounds_toArray, List.set_cons_zero, List.set_cons_succ]
          refine wpAnyH_ready (rs := [27]) (by kernel_rfl) (by simp) ?_
          refine AllReadyH.cons rfl (fun K hK => ?_) ?_
          · refine nstep_store_nb (by rfl) (by rfl) (.tmp 3) (.tmp 136) (by rfl) (w.heap.size + 1 + 1) (by rfl) (by rfl) n3 ?_
            clear n3
            intro wx27 n3 hk27
            replace n2 := nb_far n2 (by omega) hk27
            refine hK.out _ _ (hHeld.trans hk27 (fun _ _ h => h) (fun k _ e => by unfold only at e; show _ < _; omega)) (fun hHeld => ?_)
            clear hK K
            try simp only [Act.put, List.setIfInBounds_toArray, List.set_cons_zero, List.set_cons_succ]
            refine take_at (i := 28) (d := 4) (v := ?_) rfl rfl (by kernel_rfl) (by kernel_rfl) (by kernel_rfl) (fun _ _ _ h => h) (Or.inl ⟨by rfl, ?_⟩) (by assumption) ?_
            rotate_left
            · intro W hSW
              try dsimp only at hSW
              go_simp
              try with_reducible rfl
            try simp only [Act.put, List.setIfInBounds_toArray, List.set_cons_zero, List.set_cons_succ]
            refine wpAnyH_done (by kernel_rfl) ?_ _
            try go_wp2
            try rw [if_neg hnc, if_neg hnd] at n3
            refine bodyPost_ret (results_nb2t rfl _ (w.heap.size + 1) (w.heap.size + 1 + 1) _ (.string k1) rfl rfl rfl n2 n3) rfl ?_
            rw [HMk.out, HE.out, HI1.out]
            have hSf := HSW.out _ hHeld
            have hDf := HDW.out _ hHeld
            exact ⟨_, _, rfl, ⟨⟨_, _, _, rfl, Prs.nil _ _, hSf.take i q3, hDf.take i1 r7⟩, ⟨by simp, HWA.out, HWB.out⟩⟩, ⟨⟨_, _, _, rfl, Prs.nil _ _, hSf.dropI i1 q7, hDf.dropI i1 r7⟩, ⟨by simp, HWC.out, HWD.out⟩⟩, (hKb.thenN hK).trans hHeld (fun _ _ h => h) (fun k hk h => absurd hk (by have h' : w.heap.size < k := h; omega))⟩
          exact AllReadyH.nil
        exact AllReadyH.nil

end Go.Proofs.Ytjmkfkmdafjgnaa
