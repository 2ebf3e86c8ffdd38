/- Contracts, over the turned program: what the document's Split answers of leaves. Conditions: those that each theorem states. -/
import Derived.Test.YtjmkfkmdafjgnaaNRefS
import Derived.Test.YtjmkfkmdafjgnaaNRefP
import Derived.Test.YtjmkfkmdafjgnaaNOrd
namespace Go.Proofs.Ytjmkfkmdafjgnaa
open Go Go.RowKit
set_option linter.unusedVariables false

theorem Kp.then' {S T : Nat → Prop} {w w1 w2 : World} (h : Kp S w w1) (h' : Kp T w1 w2) : Kp (fun k => S k ∨ T k) w w2 := h.trans h' (fun _ _ h => .inl h) (fun _ _ h => .inr h)
theorem splG_more (sz : Nat → Nat) (all lim : Nat) : ∀ f i part, lim ≤ i + f → splG sz all lim (f + 1) i part = splG sz all lim f i part
  | 0, i, part, h => by unfold splG; rw [if_neg (by omega)]
  | f + 1, i, part, h => by
    rw [splG]
    conv => rhs; rw [splG]
    by_cases hc : i < lim ∧ 2 * part < all
    · rw [if_pos hc, if_pos hc]; exact splG_more sz all lim f (i + 1) (part + sz i) (by omega)
    · rw [if_neg hc, if_neg hc]
theorem sum_at (l : List Pr) : ∀ (i : Nat) (h : i < l.length), l[i].size ≤ (l.map Pr.size).sum := by
  induction l with
  | nil => intro i h; simp at h
  | cons x l ih =>
    intro i h
    rcases i with _ | i
    · simp
    · have := ih i (by simpa using h)
      simp only [List.map_cons, List.sum_cons, List.getElem_cons_succ]
      omega

set_option maxRecDepth 100000 in
set_option maxHeartbeats 2000000 in
theorem rsplit9_leaf (x : Value) (n : Nd) (B : Nat) (w : World) (hN : Nv B w x n) (hB : B ≤ w.heap.size) (hl : n.leaf = true) (h2 : 2 ≤ n.ps.length) (hp : n.ps.length ≤ 1048576) (hsz : n.size ≤ 4194304) :
    Calls Try.prog 23 #[x] w fun e w' => ∃ y z, e = .returned (.tuple #[y, z, .string n.mid]) ∧ Nv B w' y n.fst ∧ Nv B w' z n.snd ∧ Kp none' w w' := by
  have HPA : Hid (n.parts = true) := by show _ = _; unfold Nd.parts; simp [hl, h2]
  have HF : Hid (n.fst = ⟨true, n.ps.take n.at_, [], []⟩) := by show _ = _; unfold Nd.fst; rw [HPA.out]; simp [hl]
  have HS : Hid (n.snd = ⟨true, n.ps.drop n.at_, [], []⟩) := by show _ = _; unfold Nd.snd; rw [HPA.out]; simp [hl]
  have HM : Hid (n.mid = (n.ps.getD n.at_ ⟨⟨#[]⟩, ⟨#[]⟩⟩).k) := by show _ = _; unfold Nd.mid; rw [HPA.out]; simp [hl]
  have HAT : Hid (n.at_ = splG (fun j => (n.ps.getD j ⟨⟨#[]⟩, ⟨#[]⟩⟩).size) (n.size - 2) (n.ps.length - 1) n.ps.length 1 (n.ps.getD 0 ⟨⟨#[]⟩, ⟨#[]⟩⟩).size) := by show _ = _; unfold Nd.at_; simp [hl]
  have HSUM : Hid (n.size = 2 + (n.ps.map Pr.size).sum) := by show _ = _; unfold Nd.size; simp [hl]
  rw [HF.out, HS.out, HM.out]
  obtain ⟨at_, HA⟩ : ∃ q, Hid (n.at_ = q) := ⟨_, rfl⟩
  rw [HA.out]
  rw [HA.out] at HAT
  obtain ⟨sz, HZ⟩ : ∃ q, Hid (n.size = q) := ⟨_, rfl⟩
  have HW : Hid (wrap64 (n.size : Int) = (sz : Int)) := by show _ = _; rw [HZ.out]; rw [HZ.out] at hsz; unfold wrap64; omega
  rw [HZ.out] at HAT HSUM hsz
  have hN' := hN
  have hwf := hN.wf
  obtain ⟨⟨pv, kv, dv, rfl, hP, hS, hD⟩, _⟩ := hN'
  obtain ⟨lf, ps, ks, kd⟩ := n
  dsimp only at *
  subst hl
  have HPR0 := hide hP
  obtain ⟨a, c, rfl, hlc, hcm, hel⟩ := hP
  unfold maxLen at hcm
  obtain ⟨b, o, rfl, hbB, _⟩ := hel 0 (by omega)
  have HEL : Hid (∀ i (h : i < ps.length), w.cell? ⟨b, o + i * 2, none⟩ = some (.string ps[i].k) ∧ w.cell? ⟨b, o + i * 2 + 1, none⟩ = some (.string ps[i].v)) := by
    intro i h
    obtain ⟨b', o', e, _, h1⟩ := hel i h
    cases e
    exact h1
  clear hel
  have HPR : Hid (Prs B w (.slice (some ⟨b, o, none⟩) ps.length c) ps) := HPR0.out
  clear HPR0
  obtain ⟨o0, ho0⟩ : ∃ q, q = Obj.cells #[.bool true, .slice (some ⟨b, o, none⟩) ps.length c, kv, dv] 26 := ⟨_, rfl⟩
  obtain ⟨o2, ho2⟩ : ∃ q, q = Obj.cells #[.bool false, .slice none 0 0, .slice none 0 0, .slice none 0 0] 26 := ⟨_, rfl⟩
  have hx0 : Nb (w.alloc o0) w.heap.size true (.slice (some ⟨b, o, none⟩) ps.length c) kv dv := by rw [ho0]; exact Nb.new _ _ _ _ _
  have hy0 : Nb ((w.alloc o0).alloc o2) (w.heap.size + 1) false (.slice none 0 0) (.slice none 0 0) (.slice none 0 0) := by
    have := Nb.new (w.alloc o0) false (.slice none 0 0) (.slice none 0 0) (.slice none 0 0)
    rw [show (w.alloc o0).heap.size = w.heap.size + 1 by simp, ← ho2] at this
    exact this
  have hr0 : Nb (((w.alloc o0).alloc o2).alloc o2) (w.heap.size + 1 + 1) false (.slice none 0 0) (.slice none 0 0) (.slice none 0 0) := by
    have := Nb.new ((w.alloc o0).alloc o2) false (.slice none 0 0) (.slice none 0 0) (.slice none 0 0)
    rw [show ((w.alloc o0).alloc o2).heap.size = w.heap.size + 1 + 1 by simp, ← ho2] at this
    exact this
  have hx1 := (hx0.kept (Kp.alloc none' _ o2) (fun h => h)).kept (Kp.alloc none' _ o2) (fun h => h)
  have hy1 := hy0.kept (Kp.alloc none' _ o2) (fun h => h)
  have hK0 : Kp none' w (((w.alloc o0).alloc o2).alloc o2) := ((Kp.alloc _ _ _).thenN (Kp.alloc _ _ _)).thenN (Kp.alloc _ _ _)
  subst ho0 ho2
  have hN0 := hN.keptN hK0
  have h2i : 2 ≤ (ps.length : Int) := by omega
  go_enter Try.func23, Try.ntmps23
  go_upto_region 4 with (first
    | (go_at_call 11; refine (rsize9_any _ ⟨true, ps, ks, kd⟩ B _ hN0).mono ?_; rintro e w1 ⟨rfl, hK1⟩; rw [HW.out])
    | fail)
  have hx := hx1.kept hK1 (fun h => h)
  have hy := hy1.kept hK1 (fun h => h)
  have hr := hr0.kept hK1 (fun h => h)
  have hKa := hK0.thenN hK1
  have c1 := hx.c1
  have p0 := hKa.cell (HEL.out 0 (by omega)).1 (fun h => h)
  have p1 := hKa.cell (HEL.out 0 (by omega)).2 (fun h => h)
  clear hx0 hy0 hr0 hx1 hy1 hN hN0 hS hD
  simp only [Nat.zero_mul, Nat.add_zero] at p0 p1
  obtain ⟨z0, HZ0⟩ : ∃ q, Hid (ps[0].size = q) := ⟨ps[0].size, rfl⟩
  have HZb : Hid (z0 ≤ 4194304) := by
    show _ ≤ _
    have := sum_at ps 0 (by omega)
    have := HSUM.out
    have := HZ0.out
    omega
  have HW0 : Hid (wrap64 (ps[0].size : Int) = (z0 : Int)) := by show _ = _; rw [HZ0.out]; have := HZb.out; unfold wrap64; omega
  have HI0 : Hid (z0 = ((ps.take 1).map Pr.size).sum) := by
    show _ = _
    rw [show (1 : Nat) = 0 + 1 from rfl, sum_take Pr.size ps 0 (by omega), HZ0.out]
    simp
  have HG0 : Hid (splG (fun j => (ps.getD j ⟨⟨#[]⟩, ⟨#[]⟩⟩).size) (sz - 2) (ps.length - 1) ps.length 1 z0 = at_) := by
    show _ = _
    have e : (ps.getD 0 ⟨⟨#[]⟩, ⟨#[]⟩⟩) = ps[0] := by rw [List.getD_eq_getElem?_getD, List.getElem?_eq_getElem (by omega)]; rfl
    rw [HAT.out, e, HZ0.out]
  have h0i : (0 : Int) < (ps.length : Int) := by omega
  have h0n : 0 < ps.length := by omega
  generalize ps[0] = y0 at p0 p1 HW0
  obtain ⟨k0, v0⟩ := y0
  dsimp only at p0 p1
  go_wp2_with (go_at_call 35; refine (rpair_any ⟨k0, v0⟩ _).mono ?_; rintro e w2 ⟨rfl, hK2⟩; rw [HW0.out])
  clear p0 p1 HW0 h0i c1
  have hx2 := hx.kept hK2 (fun h => h)
  have hy2 := hy.kept hK2 (fun h => h)
  have hr2 := hr.kept hK2 (fun h => h)
  have hKb := hKa.thenN hK2
  clear hx hy hr hKa
  go_loopw [6, 7] (fun t u wr => ∃ i part f : Nat, 1 ≤ i ∧ i ≤ ps.length - 1 ∧ t = .int .i64 i ∧ u = .int .i64 part ∧ Hid (part = ((ps.take i).map Pr.size).sum) ∧ Hid (splG (fun j => (ps.getD j ⟨⟨#[]⟩, ⟨#[]⟩⟩).size) (sz - 2) (ps.length - 1) f i part = at_) ∧ Hid (ps.length ≤ i + f) ∧ Kp none' w2 wr) (fun t _ _ => ps.length - (intOf t).toNat)
  case atStart => exact ⟨1, z0, ps.length, Nat.le_refl _, by omega, rfl, rfl, HI0, HG0, (by show _ ≤ _; omega), Kp.refl _ _⟩
  case round =>
    obtain ⟨i, part, f, hi1, hil, rfl, rfl, HP, HG, HL, hK⟩ := hrel
    have hx3 := hx2.kept hK (fun h => h)
    have c1 := hx3.c1
    have hin : i < ps.length := by omega
    have HPb : Hid (part + ps[i].size + 2 ≤ sz) := by
      show _ ≤ _
      have h1 := sum_take Pr.size ps i hin
      have h3 : ((ps.take (i + 1)).map Pr.size).sum ≤ (ps.map Pr.size).sum := by
        conv => rhs; rw [← List.take_append_drop (i + 1) ps, List.map_append, List.sum_append]
        exact Nat.le_add_right _ _
      have := HP.out
      have := HSUM.out
      omega
    by_cases hc : i < ps.length - 1 ∧ 2 * part < sz - 2
    · obtain ⟨f', rfl⟩ : ∃ f', f = f' + 1 := ⟨f - 1, by have := HL.out; omega⟩
      have HG2 : Hid (splG (fun j => (ps.getD j ⟨⟨#[]⟩, ⟨#[]⟩⟩).size) (sz - 2) (ps.length - 1) f' (i + 1) (part + ps[i].size) = at_) := by
        show _ = _
        have e : (ps.getD i ⟨⟨#[]⟩, ⟨#[]⟩⟩) = ps[i] := by rw [List.getD_eq_getElem?_getD, List.getElem?_eq_getElem hin]; rfl
        rw [← HG.out, splG, if_pos hc, e]
      have HP2 : Hid (part + ps[i].size = ((ps.take (i + 1)).map Pr.size).sum) := by show _ = _; rw [sum_take Pr.size ps i hin, HP.out]
      have hc1 : (i : Int) < (ps.length : Int) - 1 := by omega
      have hc2 : 2 * (part : Int) < (sz : Int) - 2 := by omega
      have hii : (i : Int) < (ps.length : Int) := by omega
      have q0 := (hKb.thenN hK).cell (HEL.out i hin).1 (fun h => h)
      have q1 := (hKb.thenN hK).cell (HEL.out i hin).2 (fun h => h)
      generalize ps[i] = y at *
      obtain ⟨k1, v1⟩ := y
      dsimp only at q0 q1
      obtain ⟨z1, HZ1⟩ : ∃ q, Hid ((⟨k1, v1⟩ : Pr).size = q) := ⟨_, rfl⟩
      have HW1 : Hid (wrap64 ((⟨k1, v1⟩ : Pr).size : Int) = (z1 : Int)) := by show _ = _; have := HPb.out; rw [HZ1.out] at this ⊢; unfold wrap64; omega
      have hz1 : z1 ≤ 4194304 := by have := HPb.out; rw [HZ1.out] at this; omega
      have hpb : part ≤ 4194304 := by have := HPb.out; omega
      rw [HZ1.out] at HG2 HP2
      clear hc
      go_wp2_with (go_at_call 35; refine (rpair_any ⟨k1, v1⟩ _).mono ?_; rintro e w3 ⟨rfl, hK3⟩; rw [HW1.out])
      go_roundw
      case rel => exact ⟨i + 1, part + z1, f', by omega, by omega, by go_num, congrArg (Value.int .i64) (by omega), HP2, HG2, (by have := HL.out; show _ ≤ _; omega), hK.thenN hK3⟩
      case measure => simp [intOf]; omega
    · have HE : Hid (at_ = i) := by
        show _ = _
        rw [← HG.out]
        cases f with
        | zero => rfl
        | succ f => rw [splG, if_neg hc]
      have hii : (i : Int) < (ps.length : Int) := by omega
      have hic : (i : Int) ≤ (c : Int) := by omega
      have hil' : (i : Int) ≤ (ps.length : Int) := by omega
      have q0 := (hKb.thenN hK).cell (HEL.out i hin).1 (fun h => h)
      have hcn : ¬ c = i := by omega
      have hy3 := hy2.kept hK (fun h => h)
      have hr3 := hr2.kept hK (fun h => h)
      have HMk : Hid ((ps.getD at_ ⟨⟨#[]⟩, ⟨#[]⟩⟩).k = ps[i].k) := by
        show _ = _
        rw [HE.out, List.getD_eq_getElem?_getD, List.getElem?_eq_getElem hin]
        rfl
      generalize ps[i] = y at q0 HMk HPb
      obtain ⟨k1, v1⟩ := y
      dsimp only at q0 HMk
      have n2 := hy3.kept (Kp.drew none' wr) (fun h => h)
      have n3 := hr3.kept (Kp.drew none' wr) (fun h => h)
      have rc1 : ∀ W : World, Kp (fun k => w.heap.size < k) wr W → W.cell? ⟨w.heap.size, 1, none⟩ = some (.slice (some ⟨b, o, none⟩) ps.length c) := fun W hk => hk.cell c1 (fun h => by omega)
      have rk : ∀ W : World, Kp (fun k => w.heap.size < k) wr W → W.cell? ⟨b, o + i * 2, none⟩ = some (.string k1) := fun W hk => hk.cell q0 (fun h => by omega)
      have HPW : Hid (∀ W : World, Kp (fun k => w.heap.size < k) wr W → Prs B W (.slice (some ⟨b, o, none⟩) ps.length c) ps) := fun W hk => (HPR.out.keptN (hKb.thenN hK)).kept hk (fun k hk' h => by omega)
      have HWA : Hid (∀ p ∈ ps.take i, p.k.size ≤ maxLen ∧ p.v.size ≤ maxLen) := fun p hp => hwf.p p (List.mem_of_mem_take hp)
      have HWD : Hid (∀ p ∈ ps.drop i, p.k.size ≤ maxLen ∧ p.v.size ≤ maxLen) := fun p hp => hwf.p p (List.mem_of_mem_drop hp)
      have hic2 : i ≤ c := by omega
      have hin2 : i ≤ ps.length := by omega
      have hcn' : ¬ i = c := fun e => hcn e.symm
      clear hx3 hy3 hr3 hx2 hy2 hr2 q0 HP HG
      by_cases hc0 : i < ps.length - 1
      · have hc1 : (i : Int) < (ps.length : Int) - 1 := by omega
        have hc2 : ¬ 2 * (part : Int) < (sz : Int) - 2 := by omega
        have hpb : part ≤ 4194304 := by have := HPb.out; omega
        clear hc hc0
        go_upto_region 8 with fail
        clear hc1 hc2 hpb c1
        refine wp_region_held_drew (S := fun W => Kp (fun k => w.heap.size < k) wr W) (by kernel_rfl) (Kp.drew _ _) (fun hHeld => ?_)
        refine take_at (i := 0) (d := 49) (v := ?_) rfl rfl (by kernel_rfl) (by kernel_rfl) (by kernel_rfl) (fun _ _ _ h => h) (Or.inl ⟨by rfl, ?_⟩) (by assumption) ?_
        rotate_left
        · intro W hSW
          try dsimp only at hSW
          have g1 := rc1 W hSW
          have gk := rk W hSW
          go_simp
          try with_reducible rfl
        try simp only [Act.put, List.setIfInBounds_toArray, List.set_cons_zero, List.set_cons_succ]
        refine take_at (i := 1) (d := 50) (v := ?_) rfl rfl (by kernel_rfl) (by kernel_rfl) (by kernel_rfl) (fun _ _ _ h => h) (Or.inl ⟨by rfl, ?_⟩) (by assumption) ?_
        rotate_left
        · intro W hSW
          try dsimp only at hSW
          have g1 := rc1 W hSW
          have gk := rk W hSW
          go_simp
          try with_reducible rfl
        try simp only [Act.put, List.setIfInBounds_toArray, List.set_cons_zero, List.set_cons_succ]
        refine take_at (i := 2) (d := 51) (v := ?_) rfl rfl (by kernel_rfl) (by kernel_rfl) (by kernel_rfl) (fun _ _ _ h => h) (Or.inl ⟨by rfl, ?_⟩) (by assumption) ?_
        rotate_left
        · intro W hSW
          try dsimp only at hSW
          have g1 := rc1 W hSW
          have gk := rk W hSW
          go_simp
          try with_reducible rfl
        try simp only [Act.put, List.setIfInBounds_toArray, List.set_cons_zero, List.set_cons_succ]
        refine take_at (i := 3) (d := 52) (v := ?_) rfl rfl (by kernel_rfl) (by kernel_rfl) (by kernel_rfl) (fun _ _ _ h => h) (Or.inl ⟨by rfl, ?_⟩) (by assumption) ?_
        rotate_left
        · intro W hSW
          try dsimp only at hSW
          have g1 := rc1 W hSW
          have gk := rk W hSW
          go_simp
          try with_reducible rfl
        try simp only [Act.put, List.setIfInBounds_toArray, List.set_cons_zero, List.set_cons_succ]
        refine take_at (i := 4) (d := 53) (v := ?_) rfl rfl (by kernel_rfl) (by kernel_rfl) (by kernel_rfl) (fun _ _ _ h => h) (Or.inl ⟨by rfl, ?_⟩) (by assumption) ?_
        rotate_left
        · intro W hSW
          try dsimp only at hSW
          have g1 := rc1 W hSW
          have gk := rk W hSW
          go_simp
          try with_reducible rfl
        try simp only [Act.put, List.setIfInBounds_toArray, List.set_cons_zero, List.set_cons_succ]
        refine take_at (i := 5) (d := 54) (v := ?_) rfl rfl (by kernel_rfl) (by kernel_rfl) (by kernel_rfl) (fun _ _ _ h => h) (Or.inl ⟨by rfl, ?_⟩) (by assumption) ?_
        rotate_left
        · intro W hSW
          try dsimp only at hSW
          have g1 := rc1 W hSW
          have gk := rk W hSW
          go_simp
          try with_reducible rfl
        try simp only [Act.put, List.setIfInBounds_toArray, List.set_cons_zero, List.set_cons_succ]
        refine take_at (i := 6) (d := 55) (v := ?_) rfl rfl (by kernel_rfl) (by kernel_rfl) (by kernel_rfl) (fun _ _ _ h => h) (Or.inl ⟨by rfl, ?_⟩) (by assumption) ?_
        rotate_left
        · intro W hSW
          try dsimp only at hSW
          have g1 := rc1 W hSW
          have gk := rk W hSW
          go_simp
          try with_reducible rfl
        try simp only [Act.put, List.setIfInBounds_toArray, List.set_cons_zero, List.set_cons_succ]
        refine take_at (i := 7) (d := 56) (v := ?_) rfl rfl (by kernel_rfl) (by kernel_rfl) (by kernel_rfl) (fun _ _ _ h => h) (Or.inl ⟨by rfl, ?_⟩) (by assumption) ?_
        rotate_left
        · intro W hSW
          try dsimp only at hSW
          have g1 := rc1 W hSW
          have gk := rk W hSW
          go_simp
          try with_reducible rfl
        try simp only [Act.put, List.setIfInBounds_toArray, List.set_cons_zero, List.set_cons_succ]
        refine take_at (i := 8) (d := 57) (v := ?_) rfl rfl (by kernel_rfl) (by kernel_rfl) (by kernel_rfl) (fun _ _ _ h => h) (Or.inl ⟨by rfl, ?_⟩) (by assumption) ?_
        rotate_left
        · intro W hSW
          try dsimp only at hSW
          have g1 := rc1 W hSW
          have gk := rk W hSW
          go_simp
          try with_reducible rfl
        try simp only [Act.put, List.setIfInBounds_toArray, List.set_cons_zero, List.set_cons_succ]
        refine take_at (i := 9) (d := 58) (v := ?_) rfl rfl (by kernel_rfl) (by kernel_rfl) (by kernel_rfl) (fun _ _ _ h => h) (Or.inl ⟨by rfl, ?_⟩) (by assumption) ?_
        rotate_left
        · intro W hSW
          try dsimp only at hSW
          have g1 := rc1 W hSW
          have gk := rk W hSW
          go_simp
          try with_reducible rfl
        try simp only [Act.put, List.setIfInBounds_toArray, List.set_cons_zero, List.set_cons_succ]
        refine take_at (i := 10) (d := 59) (v := ?_) rfl rfl (by kernel_rfl) (by kernel_rfl) (by kernel_rfl) (fun _ _ _ h => h) (Or.inl ⟨by rfl, ?_⟩) (by assumption) ?_
        rotate_left
        · intro W hSW
          try dsimp only at hSW
          have g1 := rc1 W hSW
          have gk := rk W hSW
          go_simp
          try with_reducible rfl
        try simp only [Act.put, List.setIfInBounds_toArray, List.set_cons_zero, List.set_cons_succ]
        refine take_at (i := 11) (d := 60) (v := ?_) rfl rfl (by kernel_rfl) (by kernel_rfl) (by kernel_rfl) (fun _ _ _ h => h) (Or.inl ⟨by rfl, ?_⟩) (by assumption) ?_
        rotate_left
        · intro W hSW
          try dsimp only at hSW
          have g1 := rc1 W hSW
          have gk := rk W hSW
          go_simp
          try with_reducible rfl
        try simp only [Act.put, List.setIfInBounds_toArray, List.set_cons_zero, List.set_cons_succ]
        refine take_at (i := 12) (d := 61) (v := ?_) rfl rfl (by kernel_rfl) (by kernel_rfl) (by kernel_rfl) (fun _ _ _ h => h) (Or.inl ⟨by rfl, ?_⟩) (by assumption) ?_
        rotate_left
        · intro W hSW
          try dsimp only at hSW
          have g1 := rc1 W hSW
          have gk := rk W hSW
          go_simp
          try with_reducible rfl
        try simp only [Act.put, List.setIfInBounds_toArray, List.set_cons_zero, List.set_cons_succ]
        refine take_at (i := 13) (d := 62) (v := ?_) rfl rfl (by kernel_rfl) (by kernel_rfl) (by kernel_rfl) (fun _ _ _ h => h) (Or.inl ⟨by rfl, ?_⟩) (by assumption) ?_
        rotate_left
        · intro W hSW
          try dsimp only at hSW
          have g1 := rc1 W hSW
          have gk := rk W hSW
          go_simp
          try with_reducible rfl
        try simp only [Act.put, List.setIfInBounds_toArray, List.set_cons_zero, List.set_cons_succ]
        refine take_at (i := 14) (d := 63) (v := ?_) rfl rfl (by kernel_rfl) (by kernel_rfl) (by kernel_rfl) (fun _ _ _ h => h) (Or.inl ⟨by rfl, ?_⟩) (by assumption) ?_
        rotate_left
        · intro W hSW
          try dsimp only at hSW
          have g1 := rc1 W hSW
          have gk := rk W hSW
          go_simp
          try with_reducible rfl
        try simp only [Act.put, List.setIfInBounds_toArray, List.set_cons_zero, List.set_cons_succ]
        refine take_at (i := 15) (d := 64) (v := ?_) rfl rfl (by kernel_rfl) (by kernel_rfl) (by kernel_rfl) (fun _ _ _ h => h) (Or.inl ⟨by rfl, ?_⟩) (by assumption) ?_
        rotate_left
        · intro W hSW
          try dsimp only at hSW
          have g1 := rc1 W hSW
          have gk := rk W hSW
          go_simp
          try with_reducible rfl
        try simp only [Act.put, List.setIfInBounds_toArray, List.set_cons_zero, List.set_cons_succ]
        refine wpAnyH_ready (rs := [16]) (by kernel_rfl) (by simp) ?_
        refine AllReadyH.cons rfl (fun K hK => ?_) ?_
        · refine nstep_store_nb (by rfl) (by rfl) (.tmp 2) (.tmp 53) (by rfl) (w.heap.size + 1) (by rfl) (by rfl) n2 ?_
          clear n2
          intro wx16 n2 hk16
          replace n3 := nb_far n3 (by omega) hk16
          refine hK.out _ _ (hHeld.trans hk16 (fun _ _ h => h) (fun k _ e => by unfold only at e; show _ < _; omega)) (fun hHeld => ?_)
          clear hK K
          try simp only [Act.put, List.setIfInBounds_toArray, List.set_cons_zero, List.set_cons_succ]
          refine wpAnyH_ready (rs := [17]) (by kernel_rfl) (by simp) ?_
          refine AllReadyH.cons rfl (fun K hK => ?_) ?_
          · refine nstep_store_nb (by rfl) (by rfl) (.tmp 3) (.tmp 58) (by rfl) (w.heap.size + 1 + 1) (by rfl) (by rfl) n3 ?_
            clear n3
            intro wx17 n3 hk17
            replace n2 := nb_far n2 (by omega) hk17
            refine hK.out _ _ (hHeld.trans hk17 (fun _ _ h => h) (fun k _ e => by unfold only at e; show _ < _; omega)) (fun hHeld => ?_)
            clear hK K
            try simp only [Act.put, List.setIfInBounds_toArray, List.set_cons_zero, List.set_cons_succ]
            refine take_at (i := 18) (d := 4) (v := ?_) rfl rfl (by kernel_rfl) (by kernel_rfl) (by kernel_rfl) (fun _ _ _ h => h) (Or.inl ⟨by rfl, ?_⟩) (by assumption) ?_
            rotate_left
            · intro W hSW
              try dsimp only at hSW
              go_simp
              try with_reducible rfl
            try simp only [Act.put, List.setIfInBounds_toArray, List.set_cons_zero, List.set_cons_succ]
            refine wpAnyH_done (by kernel_rfl) ?_ _
            try go_wp2
            try rw [if_neg hcn] at n3
            refine bodyPost_ret (results_nb2t rfl _ (w.heap.size + 1) (w.heap.size + 1 + 1) _ (.string k1) rfl rfl rfl n2 n3) rfl ?_
            rw [HMk.out, HE.out]
            have hPf := HPW.out _ hHeld
            exact ⟨_, _, rfl, ⟨⟨_, _, _, rfl, hPf.take i (by omega), Sl.nil _ _ _, Sl.nil _ _ _⟩, ⟨HWA.out, by simp, by simp⟩⟩, ⟨⟨_, _, _, rfl, by have := hPf.dropM i (by omega); simpa [addr_plainN] using this, Sl.nil _ _ _, Sl.nil _ _ _⟩, ⟨HWD.out, by simp, by simp⟩⟩, (hKb.thenN hK).trans hHeld (fun _ _ h => h) (fun k hk h => absurd hk (by have h' : w.heap.size < k := h; omega))⟩
          exact AllReadyH.nil
        exact AllReadyH.nil
      · have hc1 : ¬ (i : Int) < (ps.length : Int) - 1 := by omega
        clear hc hc0
        go_upto_region 8 with fail
        clear hc1 c1
        refine wp_region_held_drew (S := fun W => Kp (fun k => w.heap.size < k) wr W) (by kernel_rfl) (Kp.drew _ _) (fun hHeld => ?_)
        refine take_at (i := 0) (d := 49) (v := ?_) rfl rfl (by kernel_rfl) (by kernel_rfl) (by kernel_rfl) (fun _ _ _ h => h) (Or.inl ⟨by rfl, ?_⟩) (by assumption) ?_
        rotate_left
        · intro W hSW
          try dsimp only at hSW
          have g1 := rc1 W hSW
          have gk := rk W hSW
          go_simp
          try with_reducible rfl
        try simp only [Act.put, List.setIfInBounds_toArray, List.set_cons_zero, List.set_cons_succ]
        refine take_at (i := 1) (d := 50) (v := ?_) rfl rfl (by kernel_rfl) (by kernel_rfl) (by kernel_rfl) (fun _ _ _ h => h) (Or.inl ⟨by rfl, ?_⟩) (by assumption) ?_
        rotate_left
        · intro W hSW
          try dsimp only at hSW
          have g1 := rc1 W hSW
          have gk := rk W hSW
          go_simp
          try with_reducible rfl
        try simp only [Act.put, List.setIfInBounds_toArray, List.set_cons_zero, List.set_cons_succ]
        refine take_at (i := 2) (d := 51) (v := ?_) rfl rfl (by kernel_rfl) (by kernel_rfl) (by kernel_rfl) (fun _ _ _ h => h) (Or.inl ⟨by rfl, ?_⟩) (by assumption) ?_
        rotate_left
        · intro W hSW
          try dsimp only at hSW
          have g1 := rc1 W hSW
          have gk := rk W hSW
          go_simp
          try with_reducible rfl
        try simp only [Act.put, List.setIfInBounds_toArray, List.set_cons_zero, List.set_cons_succ]
        refine take_at (i := 3) (d := 52) (v := ?_) rfl rfl (by kernel_rfl) (by kernel_rfl) (by kernel_rfl) (fun _ _ _ h => h) (Or.inl ⟨by rfl, ?_⟩) (by assumption) ?_
        rotate_left
        · intro W hSW
          try dsimp only at hSW
          have g1 := rc1 W hSW
          have gk := rk W hSW
          go_simp
          try with_reducible rfl
        try simp only [Act.put, List.setIfInBounds_toArray, List.set_cons_zero, List.set_cons_succ]
        refine take_at (i := 4) (d := 53) (v := ?_) rfl rfl (by kernel_rfl) (by kernel_rfl) (by kernel_rfl) (fun _ _ _ h => h) (Or.inl ⟨by rfl, ?_⟩) (by assumption) ?_
        rotate_left
        · intro W hSW
          try dsimp only at hSW
          have g1 := rc1 W hSW
          have gk := rk W hSW
          go_simp
          try with_reducible rfl
        try simp only [Act.put, List.setIfInBounds_toArray, List.set_cons_zero, List.set_cons_succ]
        refine take_at (i := 5) (d := 54) (v := ?_) rfl rfl (by kernel_rfl) (by kernel_rfl) (by kernel_rfl) (fun _ _ _ h => h) (Or.inl ⟨by rfl, ?_⟩) (by assumption) ?_
        rotate_left
        · intro W hSW
          try dsimp only at hSW
          have g1 := rc1 W hSW
          have gk := rk W hSW
          go_simp
          try with_reducible rfl
        try simp only [Act.put, List.setIfInBounds_toArray, List.set_cons_zero, List.set_cons_succ]
        refine take_at (i := 6) (d := 55) (v := ?_) rfl rfl (by kernel_rfl) (by kernel_rfl) (by kernel_rfl) (fun _ _ _ h => h) (Or.inl ⟨by rfl, ?_⟩) (by assumption) ?_
        rotate_left
        · intro W hSW
          try dsimp only at hSW
          have g1 := rc1 W hSW
          have gk := rk W hSW
          go_simp
          try with_reducible rfl
        try simp only [Act.put, List.setIfInBounds_toArray, List.set_cons_zero, List.set_cons_succ]
        refine take_at (i := 7) (d := 56) (v := ?_) rfl rfl (by kernel_rfl) (by kernel_rfl) (by kernel_rfl) (fun _ _ _ h => h) (Or.inl ⟨by rfl, ?_⟩) (by assumption) ?_
        rotate_left
        · intro W hSW
          try dsimp only at hSW
          have g1 := rc1 W hSW
          have gk := rk W hSW
          go_simp
          try with_reducible rfl
        try simp only [Act.put, List.setIfInBounds_toArray, List.set_cons_zero, List.set_cons_succ]
        refine take_at (i := 8) (d := 57) (v := ?_) rfl rfl (by kernel_rfl) (by kernel_rfl) (by kernel_rfl) (fun _ _ _ h => h) (Or.inl ⟨by rfl, ?_⟩) (by assumption) ?_
        rotate_left
        · intro W hSW
          try dsimp only at hSW
          have g1 := rc1 W hSW
          have gk := rk W hSW
          go_simp
          try with_reducible rfl
        try simp only [Act.put, List.setIfInBounds_toArray, List.set_cons_zero, List.set_cons_succ]
        refine take_at (i := 9) (d := 58) (v := ?_) rfl rfl (by kernel_rfl) (by kernel_rfl) (by kernel_rfl) (fun _ _ _ h => h) (Or.inl ⟨by rfl, ?_⟩) (by assumption) ?_
        rotate_left
        · intro W hSW
          try dsimp only at hSW
          have g1 := rc1 W hSW
          have gk := rk W hSW
          go_simp
          try with_reducible rfl
        try simp only [Act.put, List.setIfInBounds_toArray, List.set_cons_zero, List.set_cons_succ]
        refine take_at (i := 10) (d := 59) (v := ?_) rfl rfl (by kernel_rfl) (by kernel_rfl) (by kernel_rfl) (fun _ _ _ h => h) (Or.inl ⟨by rfl, ?_⟩) (by assumption) ?_
        rotate_left
        · intro W hSW
          try dsimp only at hSW
          have g1 := rc1 W hSW
          have gk := rk W hSW
          go_simp
          try with_reducible rfl
        try simp only [Act.put, List.setIfInBounds_toArray, List.set_cons_zero, List.set_cons_succ]
        refine take_at (i := 11) (d := 60) (v := ?_) rfl rfl (by kernel_rfl) (by kernel_rfl) (by kernel_rfl) (fun _ _ _ h => h) (Or.inl ⟨by rfl, ?_⟩) (by assumption) ?_
        rotate_left
        · intro W hSW
          try dsimp only at hSW
          have g1 := rc1 W hSW
          have gk := rk W hSW
          go_simp
          try with_reducible rfl
        try simp only [Act.put, List.setIfInBounds_toArray, List.set_cons_zero, List.set_cons_succ]
        refine take_at (i := 12) (d := 61) (v := ?_) rfl rfl (by kernel_rfl) (by kernel_rfl) (by kernel_rfl) (fun _ _ _ h => h) (Or.inl ⟨by rfl, ?_⟩) (by assumption) ?_
        rotate_left
        · intro W hSW
          try dsimp only at hSW
          have g1 := rc1 W hSW
          have gk := rk W hSW
          go_simp
          try with_reducible rfl
        try simp only [Act.put, List.setIfInBounds_toArray, List.set_cons_zero, List.set_cons_succ]
        refine take_at (i := 13) (d := 62) (v := ?_) rfl rfl (by kernel_rfl) (by kernel_rfl) (by kernel_rfl) (fun _ _ _ h => h) (Or.inl ⟨by rfl, ?_⟩) (by assumption) ?_
        rotate_left
        · intro W hSW
          try dsimp only at hSW
          have g1 := rc1 W hSW
          have gk := rk W hSW
          go_simp
          try with_reducible rfl
        try simp only [Act.put, List.setIfInBounds_toArray, List.set_cons_zero, List.set_cons_succ]
        refine take_at (i := 14) (d := 63) (v := ?_) rfl rfl (by kernel_rfl) (by kernel_rfl) (by kernel_rfl) (fun _ _ _ h => h) (Or.inl ⟨by rfl, ?_⟩) (by assumption) ?_
        rotate_left
        · intro W hSW
          try dsimp only at hSW
          have g1 := rc1 W hSW
          have gk := rk W hSW
          go_simp
          try with_reducible rfl
        try simp only [Act.put, List.setIfInBounds_toArray, List.set_cons_zero, List.set_cons_succ]
        refine take_at (i := 15) (d := 64) (v := ?_) rfl rfl (by kernel_rfl) (by kernel_rfl) (by kernel_rfl) (fun _ _ _ h => h) (Or.inl ⟨by rfl, ?_⟩) (by assumption) ?_
        rotate_left
        · intro W hSW
          try dsimp only at hSW
          have g1 := rc1 W hSW
          have gk := rk W hSW
          go_simp
          try with_reducible rfl
        try simp only [Act.put, List.setIfInBounds_toArray, List.set_cons_zero, List.set_cons_succ]
        refine wpAnyH_ready (rs := [16]) (by kernel_rfl) (by simp) ?_
        refine AllReadyH.cons rfl (fun K hK => ?_) ?_
        · refine nstep_store_nb (by rfl) (by rfl) (.tmp 2) (.tmp 53) (by rfl) (w.heap.size + 1) (by rfl) (by rfl) n2 ?_
          clear n2
          intro wx16 n2 hk16
          replace n3 := nb_far n3 (by omega) hk16
          refine hK.out _ _ (hHeld.trans hk16 (fun _ _ h => h) (fun k _ e => by unfold only at e; show _ < _; omega)) (fun hHeld => ?_)
          clear hK K
          try simp only [Act.put, List.setIfInBounds_toArray, List.set_cons_zero, List.set_cons_succ]
          refine wpAnyH_ready (rs := [17]) (by kernel_rfl) (by simp) ?_
          refine AllReadyH.cons rfl (fun K hK => ?_) ?_
          · refine nstep_store_nb (by rfl) (by rfl) (.tmp 3) (.tmp 58) (by rfl) (w.heap.size + 1 + 1) (by rfl) (by rfl) n3 ?_
            clear n3
            intro wx17 n3 hk17
            replace n2 := nb_far n2 (by omega) hk17
            refine hK.out _ _ (hHeld.trans hk17 (fun _ _ h => h) (fun k _ e => by unfold only at e; show _ < _; omega)) (fun hHeld => ?_)
            clear hK K
            try simp only [Act.put, List.setIfInBounds_toArray, List.set_cons_zero, List.set_cons_succ]
            refine take_at (i := 18) (d := 4) (v := ?_) rfl rfl (by kernel_rfl) (by kernel_rfl) (by kernel_rfl) (fun _ _ _ h => h) (Or.inl ⟨by rfl, ?_⟩) (by assumption) ?_
            rotate_left
            · intro W hSW
              try dsimp only at hSW
              go_simp
              try with_reducible rfl
            try simp only [Act.put, List.setIfInBounds_toArray, List.set_cons_zero, List.set_cons_succ]
            refine wpAnyH_done (by kernel_rfl) ?_ _
            try go_wp2
            try rw [if_neg hcn] at n3
            refine bodyPost_ret (results_nb2t rfl _ (w.heap.size + 1) (w.heap.size + 1 + 1) _ (.string k1) rfl rfl rfl n2 n3) rfl ?_
            rw [HMk.out, HE.out]
            have hPf := HPW.out _ hHeld
            exact ⟨_, _, rfl, ⟨⟨_, _, _, rfl, hPf.take i (by omega), Sl.nil _ _ _, Sl.nil _ _ _⟩, ⟨HWA.out, by simp, by simp⟩⟩, ⟨⟨_, _, _, rfl, by have := hPf.dropM i (by omega); simpa [addr_plainN] using this, Sl.nil _ _ _, Sl.nil _ _ _⟩, ⟨HWD.out, by simp, by simp⟩⟩, (hKb.thenN hK).trans hHeld (fun _ _ h => h) (fun k hk h => absurd hk (by have h' : w.heap.size < k := h; omega))⟩
          exact AllReadyH.nil
        exact AllReadyH.nil

end Go.Proofs.Ytjmkfkmdafjgnaa
