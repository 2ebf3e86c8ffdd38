/- Contracts, over the turned program: Split of inner nodes, and of nodes that have too little. Conditions: those that each theorem states. -/
import Derived.Test.YtjmkfkmdafjgnaaNPq
namespace Go.Proofs.Ytjmkfkmdafjgnaa
open Go Go.RowKit
set_option linter.unusedVariables false

set_option maxRecDepth 100000 in
set_option maxHeartbeats 1000000 in
theorem nsplit_inner (x : Value) (n : Nd) (B : Nat) (w : World) (hN : Nv B w x n) (hB : B ≤ w.heap.size) (hl : n.leaf = false) (h3 : 3 ≤ n.ks.length) (hkl : n.kd.length = n.ks.length + 1) (hp : n.ks.length ≤ 1048576) (hsz : n.size ≤ 4194304) :
    Calls Try.prog 22 #[x] w fun e w' => ∃ y z, e = .returned (.tuple #[y, z, .string n.mid]) ∧ Nv w'.heap.size w' y n.fst ∧ Nv w'.heap.size w' z n.snd ∧ Kp none' w w' := by
  have HPA : n.parts = true := by unfold Nd.parts; simp [hl, h3, hkl]
  have HF : Hid (n.fst = ⟨false, [], n.ks.take n.at_, n.kd.take (n.at_ + 1)⟩) := by show _ = _; unfold Nd.fst; rw [HPA]; simp [hl]
  have HS : Hid (n.snd = ⟨false, [], n.ks.drop (n.at_ + 1), n.kd.drop (n.at_ + 1)⟩) := by show _ = _; unfold Nd.snd; rw [HPA]; simp [hl]
  have HM : Hid (n.mid = n.ks.getD n.at_ ⟨#[]⟩) := by show _ = _; unfold Nd.mid; rw [HPA]; simp [hl]
  have HSUM : n.size = 4 + (n.ks.map kSize).sum := by unfold Nd.size; simp [hl]
  have HAT : splG (fun j => kSize (n.ks.getD j ⟨#[]⟩)) (n.ks.map kSize).sum (n.ks.length - 2) n.ks.length 1 (kSize (n.ks.getD 0 ⟨#[]⟩)) = n.at_ := by
    unfold Nd.at_
    rw [hl, HSUM, Nat.add_sub_cancel_left]
    rfl
  obtain ⟨h1, hlt, _, _⟩ := at_inner hl h3
  rw [HF.out, HS.out, HM.out]
  have hwk := hN.wf.k
  have hwd := hN.wf.d
  obtain ⟨⟨pv, kv, dv, rfl, hP, hS, hD⟩, hwf⟩ := hN
  obtain ⟨A, HA⟩ : ∃ q, Hid (n.at_ = q) := ⟨_, rfl⟩
  rw [HA.out] at HAT hlt ⊢
  obtain ⟨key, HK⟩ : ∃ q, Hid (n.ks.getD A ⟨#[]⟩ = q) := ⟨_, rfl⟩
  rw [HK.out]
  have hkey : n.ks[A]'(by omega) = key := by rw [← HK.out, List.getD_eq_getElem?_getD, List.getElem?_eq_getElem (by omega)]; rfl
  obtain ⟨a1, c1, e1, _⟩ := id hP
  obtain ⟨a2, c2, e2, _⟩ := id hS
  obtain ⟨a3, c3, e3, _⟩ := id hD
  subst e1 e2 e3
  rw [hl]
  have nb := ((Nb.new w false (.slice a1 n.ps.length c1) (.slice a2 n.ks.length c2) (.slice a3 n.kd.length c3)).kept (Kp.alloc none' _ (.cells #[.bool false, .slice none 0 0, .slice none 0 0, .slice none 0 0] 26)) (fun h => h)).kept (Kp.alloc none' _ (.cells #[.bool false, .slice none 0 0, .slice none 0 0, .slice none 0 0] 26)) (fun h => h)
  have n2 := (Nb.new (w.alloc (.cells #[.bool false, .slice a1 n.ps.length c1, .slice a2 n.ks.length c2, .slice a3 n.kd.length c3] 26)) false (.slice none 0 0) (.slice none 0 0) (.slice none 0 0)).kept (Kp.alloc none' _ (.cells #[.bool false, .slice none 0 0, .slice none 0 0, .slice none 0 0] 26)) (fun h => h)
  have n3 := Nb.new ((w.alloc (.cells #[.bool false, .slice a1 n.ps.length c1, .slice a2 n.ks.length c2, .slice a3 n.kd.length c3] 26)).alloc (.cells #[.bool false, .slice none 0 0, .slice none 0 0, .slice none 0 0] 26)) false (.slice none 0 0) (.slice none 0 0) (.slice none 0 0)
  rw [show (w.alloc (.cells #[.bool false, .slice a1 n.ps.length c1, .slice a2 n.ks.length c2, .slice a3 n.kd.length c3] 26)).heap.size = w.heap.size + 1 by simp] at n2
  rw [show ((w.alloc (.cells #[.bool false, .slice a1 n.ps.length c1, .slice a2 n.ks.length c2, .slice a3 n.kd.length c3] 26)).alloc (.cells #[.bool false, .slice none 0 0, .slice none 0 0, .slice none 0 0] 26)).heap.size = w.heap.size + 1 + 1 by simp] at n3
  have hK0 : Kp none' w (((w.alloc (.cells #[.bool false, .slice a1 n.ps.length c1, .slice a2 n.ks.length c2, .slice a3 n.kd.length c3] 26)).alloc (.cells #[.bool false, .slice none 0 0, .slice none 0 0, .slice none 0 0] 26)).alloc (.cells #[.bool false, .slice none 0 0, .slice none 0 0, .slice none 0 0] 26)) := ((Kp.alloc _ _ _).thenN (Kp.alloc _ _ _)).thenN (Kp.alloc _ _ _)
  have HSL : Hid (∀ W : World, Kp none' w W → Calls Try.prog 41 #[.slice a2 n.ks.length c2, .slice a3 n.kd.length c3] W fun e w' => ∃ a m c a2 m2 c2 a' m' c' a2' m2' c2', e = .returned (.tuple #[.agg #[.bool false, .slice none 0 0, .slice a m c, .slice a2 m2 c2], .agg #[.bool false, .slice none 0 0, .slice a' m' c', .slice a2' m2' c2'], .string key]) ∧
      Ow Value.string 9 w' W.heap.size (.slice a m c) (n.ks.take A) ∧ Ow (Value.int .i64) 3 w' W.heap.size (.slice a2 m2 c2) (n.kd.take (A + 1)) ∧ Ow Value.string 9 w' W.heap.size (.slice a' m' c') (n.ks.drop (A + 1)) ∧ Ow (Value.int .i64) 3 w' W.heap.size (.slice a2' m2' c2') (n.kd.drop (A + 1)) ∧ Kp none' W w') := fun W hk => splitInner_any _ _ n.ks n.kd B W (hS.keptN hk) (hD.keptN hk) (Nat.le_trans hB hk.size) h3 hkl (by omega) (by omega) A HAT hlt key hkey
  have h3i : (3 : Int) ≤ (n.ks.length : Int) := by omega
  have hq' : ((n.kd.length : Int) == wrap64 ((n.ks.length : Int) + 1)) = true := by rw [beq_iff_eq]; unfold wrap64; omega
  have HW1 : Hid (∀ k ∈ n.ks.take A, k.size ≤ maxLen) := fun p hp => hwk p (List.mem_of_mem_take hp)
  have HW2 : Hid (∀ z ∈ n.kd.take (A + 1), -9223372036854775808 ≤ z ∧ z < 9223372036854775808) := fun p hp => hwd p (List.mem_of_mem_take hp)
  have HW3 : Hid (∀ k ∈ n.ks.drop (A + 1), k.size ≤ maxLen) := fun p hp => hwk p (List.mem_of_mem_drop hp)
  have HW4 : Hid (∀ z ∈ n.kd.drop (A + 1), -9223372036854775808 ≤ z ∧ z < 9223372036854775808) := fun p hp => hwd p (List.mem_of_mem_drop hp)
  clear hP hS hD hwf hkey HAT hwk hwd hsz hp HSUM HPA hkl
  go_enter Try.func22, Try.ntmps22
  go_upto_region 1 with fail
  generalize ((w.alloc (.cells #[.bool false, .slice a1 n.ps.length c1, .slice a2 n.ks.length c2, .slice a3 n.kd.length c3] 26)).alloc (.cells #[.bool false, .slice none 0 0, .slice none 0 0, .slice none 0 0] 26)).alloc (.cells #[.bool false, .slice none 0 0, .slice none 0 0, .slice none 0 0] 26) = w0 at *
  have d0 := nb.c0
  have d2 := nb.c2
  have d3 := nb.c3
  have HLT : Hid (w.heap.size + 1 + 1 < w0.heap.size) := n3.lt
  go_wp2_with (first
    | (go_at_call 41; refine (HSL.out _ hK0).mono ?_; rintro e w1 ⟨a4, m4, c4, a5, m5, c5, a6, m6, c6, a7, m7, c7, rfl, hO1, hO2, hO3, hO4, hK1⟩; replace n2 := n2.kept hK1 (fun h => h); replace n3 := n3.kept hK1 (fun h => h))
    | (refine nwpList_store_nb rfl rfl (.tmp 2) (.tmp 43) rfl (w.heap.size + 1) rfl rfl n2 ?_; clear n2; intro w2 n2 hK2; replace n3 := nb_far n3 (by omega) hK2)
    | (refine nwpList_store_nb rfl rfl (.tmp 3) (.tmp 44) rfl (w.heap.size + 1 + 1) rfl rfl n3 ?_; clear n3; intro w3 n3 hK3; replace n2 := nb_far n2 (by omega) hK3)
    | fail)
  refine bodyPost_ret (results_nb2t rfl _ (w.heap.size + 1) (w.heap.size + 1 + 1) _ (.string key) rfl rfl rfl n2 n3) rfl ?_
  have k2 : Kp none' w w3 := kp_far (kp_far (hK0.thenN hK1) (by omega) hK2) (by omega) hK3
  replace hO1 := (hO1.kept hK2 (fun z hz e => by have := (hO1.lt z hz).1; have := HLT.out; unfold only at e; omega))
  replace hO1 := (hO1.kept hK3 (fun z hz e => by have := (hO1.lt z hz).1; have := HLT.out; unfold only at e; omega))
  replace hO2 := (hO2.kept hK2 (fun z hz e => by have := (hO2.lt z hz).1; have := HLT.out; unfold only at e; omega))
  replace hO2 := (hO2.kept hK3 (fun z hz e => by have := (hO2.lt z hz).1; have := HLT.out; unfold only at e; omega))
  replace hO3 := (hO3.kept hK2 (fun z hz e => by have := (hO3.lt z hz).1; have := HLT.out; unfold only at e; omega))
  replace hO3 := (hO3.kept hK3 (fun z hz e => by have := (hO3.lt z hz).1; have := HLT.out; unfold only at e; omega))
  replace hO4 := (hO4.kept hK2 (fun z hz e => by have := (hO4.lt z hz).1; have := HLT.out; unfold only at e; omega))
  replace hO4 := (hO4.kept hK3 (fun z hz e => by have := (hO4.lt z hz).1; have := HLT.out; unfold only at e; omega))
  exact ⟨_, _, rfl, Nv.ownI hO1.sl hO2.sl HW1.out HW2.out, Nv.ownI hO3.sl hO4.sl HW3.out HW4.out, k2⟩

set_option maxRecDepth 100000 in
set_option maxHeartbeats 1000000 in
theorem nsplit_none1 (x : Value) (n : Nd) (B : Nat) (w : World) (hN : Nv B w x n) (hB : B ≤ w.heap.size) (hl : n.leaf = true) (hpa : n.parts = false) (hg0 : ¬ 2 ≤ n.ps.length) (hp : n.ps.length ≤ 1048576) (hk : n.ks.length ≤ 1048576) (hd : n.kd.length ≤ 1048576) :
    Calls Try.prog 22 #[x] w fun e w' => ∃ y z, e = .returned (.tuple #[y, z, .string n.mid]) ∧ Nv w'.heap.size w' y n.fst ∧ Nv w'.heap.size w' z n.snd ∧ Kp none' w w' := by
  obtain ⟨e1, e2, e3⟩ := split_none hpa
  rw [e1, e2, e3]
  clear e1 e2 e3
  have hN' := hN
  obtain ⟨⟨pv, kv, dv, rfl, hP, hS, hD⟩, hwf⟩ := hN
  obtain ⟨a1, c1, e1, _⟩ := id hP
  obtain ⟨a2, c2, e2, _⟩ := id hS
  obtain ⟨a3, c3, e3, _⟩ := id hD
  subst e1 e2 e3
  rw [hl] at hN' ⊢
  have nb := ((Nb.new w true (.slice a1 n.ps.length c1) (.slice a2 n.ks.length c2) (.slice a3 n.kd.length c3)).kept (Kp.alloc none' _ (.cells #[.bool false, .slice none 0 0, .slice none 0 0, .slice none 0 0] 26)) (fun h => h)).kept (Kp.alloc none' _ (.cells #[.bool false, .slice none 0 0, .slice none 0 0, .slice none 0 0] 26)) (fun h => h)
  have n2 := (Nb.new (w.alloc (.cells #[.bool true, .slice a1 n.ps.length c1, .slice a2 n.ks.length c2, .slice a3 n.kd.length c3] 26)) false (.slice none 0 0) (.slice none 0 0) (.slice none 0 0)).kept (Kp.alloc none' _ (.cells #[.bool false, .slice none 0 0, .slice none 0 0, .slice none 0 0] 26)) (fun h => h)
  have n3 := Nb.new ((w.alloc (.cells #[.bool true, .slice a1 n.ps.length c1, .slice a2 n.ks.length c2, .slice a3 n.kd.length c3] 26)).alloc (.cells #[.bool false, .slice none 0 0, .slice none 0 0, .slice none 0 0] 26)) false (.slice none 0 0) (.slice none 0 0) (.slice none 0 0)
  rw [show (w.alloc (.cells #[.bool true, .slice a1 n.ps.length c1, .slice a2 n.ks.length c2, .slice a3 n.kd.length c3] 26)).heap.size = w.heap.size + 1 by simp] at n2
  rw [show ((w.alloc (.cells #[.bool true, .slice a1 n.ps.length c1, .slice a2 n.ks.length c2, .slice a3 n.kd.length c3] 26)).alloc (.cells #[.bool false, .slice none 0 0, .slice none 0 0, .slice none 0 0] 26)).heap.size = w.heap.size + 1 + 1 by simp] at n3
  have hK0 : Kp none' w (((w.alloc (.cells #[.bool true, .slice a1 n.ps.length c1, .slice a2 n.ks.length c2, .slice a3 n.kd.length c3] 26)).alloc (.cells #[.bool false, .slice none 0 0, .slice none 0 0, .slice none 0 0] 26)).alloc (.cells #[.bool false, .slice none 0 0, .slice none 0 0, .slice none 0 0] 26)) := ((Kp.alloc _ _ _).thenN (Kp.alloc _ _ _)).thenN (Kp.alloc _ _ _)
  have HSL : Hid (∀ W : World, Kp none' w W → Calls Try.prog 42 #[.agg #[.bool true, .slice a1 n.ps.length c1, .slice a2 n.ks.length c2, .slice a3 n.kd.length c3]] W fun e w' => ∃ a m c a2 m2 c2 a3 m3 c3, e = .returned (.agg #[.bool true, .slice a m c, .slice a2 m2 c2, .slice a3 m3 c3]) ∧ OwP w' W.heap.size (.slice a m c) n.ps ∧ Ow Value.string 9 w' W.heap.size (.slice a2 m2 c2) n.ks ∧ Ow (Value.int .i64) 3 w' W.heap.size (.slice a3 m3 c3) n.kd ∧ Kp none' W w') := by
    intro W hk'
    have := copied_any _ n B W (hN'.keptN hk') (Nat.le_trans hB hk'.size) (by omega) (by omega) (by omega)
    rw [hl] at this
    exact this
  have HWF := hide hwf
  have HL := hide hl
  have hg : ¬ (2 : Int) ≤ (n.ps.length : Int) := by omega
  clear hg0
  clear hP hS hD hwf hN' hp hl hk hd hpa
  obtain ⟨lp, Hlp⟩ : ∃ l, Hid (n.ps.length = l) := ⟨_, rfl⟩
  obtain ⟨lk, Hlk⟩ : ∃ l, Hid (n.ks.length = l) := ⟨_, rfl⟩
  obtain ⟨ld, Hld⟩ : ∃ l, Hid (n.kd.length = l) := ⟨_, rfl⟩
  rw [Hlp.out, Hlk.out, Hld.out] at nb n2 n3 hK0 HSL ⊢
  rw [Hlp.out] at hg
  have hgn : ¬ 2 ≤ lp := by omega
  have hgd : decide (2 ≤ lp) = false := decide_eq_false hgn
  have hgi : decide ((2 : Int) ≤ (lp : Int)) = false := decide_eq_false hg
  clear hg hgn hgd
  go_enter Try.func22, Try.ntmps22
  go_upto_region 1 with fail
  generalize ((w.alloc (.cells #[.bool true, .slice a1 lp c1, .slice a2 lk c2, .slice a3 ld c3] 26)).alloc (.cells #[.bool false, .slice none 0 0, .slice none 0 0, .slice none 0 0] 26)).alloc (.cells #[.bool false, .slice none 0 0, .slice none 0 0, .slice none 0 0] 26) = w0 at *
  have d0 := nb.c0
  have d1 := nb.c1
  have d2 := nb.c2
  have d3 := nb.c3
  have HLT : Hid (w.heap.size + 1 + 1 < w0.heap.size) := n3.lt
  go_upto_region 5 with fail
  go_wp2_with (first
    | (go_at_call 42; refine (HSL.out _ hK0).mono ?_; rintro e w1 ⟨a4, m4, c4, a5, m5, c5, a6, m6, c6, rfl, hO1, hO2, hO3, hK1⟩; replace n2 := n2.kept hK1 (fun h => h); replace n3 := n3.kept hK1 (fun h => h))
    | (refine nwpList_store_nb rfl rfl (.tmp 2) (.tmp 47) rfl (w.heap.size + 1) rfl rfl n2 ?_; clear n2; intro w2 n2 hK2; replace n3 := nb_far n3 (by omega) hK2)
    | (refine nwpList_store_nb rfl rfl (.tmp 3) (.tmp 48) rfl (w.heap.size + 1 + 1) rfl rfl n3 ?_; clear n3; intro w3 n3 hK3; replace n2 := nb_far n2 (by omega) hK3)
    | fail)
  refine bodyPost_ret (results_nb2t rfl _ (w.heap.size + 1) (w.heap.size + 1 + 1) _ (.string ⟨#[]⟩) rfl rfl rfl n2 n3) rfl ?_
  have k2 : Kp none' w w3 := kp_far (kp_far (hK0.thenN hK1) (by omega) hK2) (by omega) hK3
  replace hO1 := (hO1.kept hK2 (fun z hz e => by have := (hO1.lt z hz).1; have := HLT.out; unfold only at e; omega))
  replace hO1 := (hO1.kept hK3 (fun z hz e => by have := (hO1.lt z hz).1; have := HLT.out; unfold only at e; omega))
  replace hO2 := (hO2.kept hK2 (fun z hz e => by have := (hO2.lt z hz).1; have := HLT.out; unfold only at e; omega))
  replace hO2 := (hO2.kept hK3 (fun z hz e => by have := (hO2.lt z hz).1; have := HLT.out; unfold only at e; omega))
  replace hO3 := (hO3.kept hK2 (fun z hz e => by have := (hO3.lt z hz).1; have := HLT.out; unfold only at e; omega))
  replace hO3 := (hO3.kept hK3 (fun z hz e => by have := (hO3.lt z hz).1; have := HLT.out; unfold only at e; omega))
  refine ⟨_, _, rfl, ⟨⟨_, _, _, by rw [HL.out], hO1.prs, hO2.sl, hO3.sl⟩, HWF.out⟩, ⟨⟨_, _, _, rfl, Prs.nil _ _, Sl.nil _ _ _, Sl.nil _ _ _⟩, ⟨by simp, by simp, by simp⟩⟩, k2⟩

set_option maxRecDepth 100000 in
set_option maxHeartbeats 1000000 in
theorem nsplit_none2 (x : Value) (n : Nd) (B : Nat) (w : World) (hN : Nv B w x n) (hB : B ≤ w.heap.size) (hl : n.leaf = false) (hpa : n.parts = false) (hg0 : ¬ 3 ≤ n.ks.length) (hp : n.ps.length ≤ 1048576) (hk : n.ks.length ≤ 1048576) (hd : n.kd.length ≤ 1048576) :
    Calls Try.prog 22 #[x] w fun e w' => ∃ y z, e = .returned (.tuple #[y, z, .string n.mid]) ∧ Nv w'.heap.size w' y n.fst ∧ Nv w'.heap.size w' z n.snd ∧ Kp none' w w' := by
  obtain ⟨e1, e2, e3⟩ := split_none hpa
  rw [e1, e2, e3]
  clear e1 e2 e3
  have hN' := hN
  obtain ⟨⟨pv, kv, dv, rfl, hP, hS, hD⟩, hwf⟩ := hN
  obtain ⟨a1, c1, e1, _⟩ := id hP
  obtain ⟨a2, c2, e2, _⟩ := id hS
  obtain ⟨a3, c3, e3, _⟩ := id hD
  subst e1 e2 e3
  rw [hl] at hN' ⊢
  have nb := ((Nb.new w false (.slice a1 n.ps.length c1) (.slice a2 n.ks.length c2) (.slice a3 n.kd.length c3)).kept (Kp.alloc none' _ (.cells #[.bool false, .slice none 0 0, .slice none 0 0, .slice none 0 0] 26)) (fun h => h)).kept (Kp.alloc none' _ (.cells #[.bool false, .slice none 0 0, .slice none 0 0, .slice none 0 0] 26)) (fun h => h)
  have n2 := (Nb.new (w.alloc (.cells #[.bool false, .slice a1 n.ps.length c1, .slice a2 n.ks.length c2, .slice a3 n.kd.length c3] 26)) false (.slice none 0 0) (.slice none 0 0) (.slice none 0 0)).kept (Kp.alloc none' _ (.cells #[.bool false, .slice none 0 0, .slice none 0 0, .slice none 0 0] 26)) (fun h => h)
  have n3 := Nb.new ((w.alloc (.cells #[.bool false, .slice a1 n.ps.length c1, .slice a2 n.ks.length c2, .slice a3 n.kd.length c3] 26)).alloc (.cells #[.bool false, .slice none 0 0, .slice none 0 0, .slice none 0 0] 26)) false (.slice none 0 0) (.slice none 0 0) (.slice none 0 0)
  rw [show (w.alloc (.cells #[.bool false, .slice a1 n.ps.length c1, .slice a2 n.ks.length c2, .slice a3 n.kd.length c3] 26)).heap.size = w.heap.size + 1 by simp] at n2
  rw [show ((w.alloc (.cells #[.bool false, .slice a1 n.ps.length c1, .slice a2 n.ks.length c2, .slice a3 n.kd.length c3] 26)).alloc (.cells #[.bool false, .slice none 0 0, .slice none 0 0, .slice none 0 0] 26)).heap.size = w.heap.size + 1 + 1 by simp] at n3
  have hK0 : Kp none' w (((w.alloc (.cells #[.bool false, .slice a1 n.ps.length c1, .slice a2 n.ks.length c2, .slice a3 n.kd.length c3] 26)).alloc (.cells #[.bool false, .slice none 0 0, .slice none 0 0, .slice none 0 0] 26)).alloc (.cells #[.bool false, .slice none 0 0, .slice none 0 0, .slice none 0 0] 26)) := ((Kp.alloc _ _ _).thenN (Kp.alloc _ _ _)).thenN (Kp.alloc _ _ _)
  have HSL : Hid (∀ W : World, Kp none' w W → Calls Try.prog 42 #[.agg #[.bool false, .slice a1 n.ps.length c1, .slice a2 n.ks.length c2, .slice a3 n.kd.length c3]] W fun e w' => ∃ a m c a2 m2 c2 a3 m3 c3, e = .returned (.agg #[.bool false, .slice a m c, .slice a2 m2 c2, .slice a3 m3 c3]) ∧ OwP w' W.heap.size (.slice a m c) n.ps ∧ Ow Value.string 9 w' W.heap.size (.slice a2 m2 c2) n.ks ∧ Ow (Value.int .i64) 3 w' W.heap.size (.slice a3 m3 c3) n.kd ∧ Kp none' W w') := by
    intro W hk'
    have := copied_any _ n B W (hN'.keptN hk') (Nat.le_trans hB hk'.size) (by omega) (by omega) (by omega)
    rw [hl] at this
    exact this
  have HWF := hide hwf
  have HL := hide hl
  have hg : ¬ (3 : Int) ≤ (n.ks.length : Int) := by omega
  clear hg0
  clear hP hS hD hwf hN' hp hl hk hd hpa
  obtain ⟨lp, Hlp⟩ : ∃ l, Hid (n.ps.length = l) := ⟨_, rfl⟩
  obtain ⟨lk, Hlk⟩ : ∃ l, Hid (n.ks.length = l) := ⟨_, rfl⟩
  obtain ⟨ld, Hld⟩ : ∃ l, Hid (n.kd.length = l) := ⟨_, rfl⟩
  rw [Hlp.out, Hlk.out, Hld.out] at nb n2 n3 hK0 HSL ⊢
  rw [Hlk.out] at hg
  have hgn : ¬ 3 ≤ lk := by omega
  have hgd : decide (3 ≤ lk) = false := decide_eq_false hgn
  have hgi : decide ((3 : Int) ≤ (lk : Int)) = false := decide_eq_false hg
  clear hg hgn hgd
  go_enter Try.func22, Try.ntmps22
  go_upto_region 1 with fail
  generalize ((w.alloc (.cells #[.bool false, .slice a1 lp c1, .slice a2 lk c2, .slice a3 ld c3] 26)).alloc (.cells #[.bool false, .slice none 0 0, .slice none 0 0, .slice none 0 0] 26)).alloc (.cells #[.bool false, .slice none 0 0, .slice none 0 0, .slice none 0 0] 26) = w0 at *
  have d0 := nb.c0
  have d1 := nb.c1
  have d2 := nb.c2
  have d3 := nb.c3
  have HLT : Hid (w.heap.size + 1 + 1 < w0.heap.size) := n3.lt
  go_upto_region 5 with fail
  go_wp2_with (first
    | (go_at_call 42; refine (HSL.out _ hK0).mono ?_; rintro e w1 ⟨a4, m4, c4, a5, m5, c5, a6, m6, c6, rfl, hO1, hO2, hO3, hK1⟩; replace n2 := n2.kept hK1 (fun h => h); replace n3 := n3.kept hK1 (fun h => h))
    | (refine nwpList_store_nb rfl rfl (.tmp 2) (.tmp 47) rfl (w.heap.size + 1) rfl rfl n2 ?_; clear n2; intro w2 n2 hK2; replace n3 := nb_far n3 (by omega) hK2)
    | (refine nwpList_store_nb rfl rfl (.tmp 3) (.tmp 48) rfl (w.heap.size + 1 + 1) rfl rfl n3 ?_; clear n3; intro w3 n3 hK3; replace n2 := nb_far n2 (by omega) hK3)
    | fail)
  refine bodyPost_ret (results_nb2t rfl _ (w.heap.size + 1) (w.heap.size + 1 + 1) _ (.string ⟨#[]⟩) rfl rfl rfl n2 n3) rfl ?_
  have k2 : Kp none' w w3 := kp_far (kp_far (hK0.thenN hK1) (by omega) hK2) (by omega) hK3
  replace hO1 := (hO1.kept hK2 (fun z hz e => by have := (hO1.lt z hz).1; have := HLT.out; unfold only at e; omega))
  replace hO1 := (hO1.kept hK3 (fun z hz e => by have := (hO1.lt z hz).1; have := HLT.out; unfold only at e; omega))
  replace hO2 := (hO2.kept hK2 (fun z hz e => by have := (hO2.lt z hz).1; have := HLT.out; unfold only at e; omega))
  replace hO2 := (hO2.kept hK3 (fun z hz e => by have := (hO2.lt z hz).1; have := HLT.out; unfold only at e; omega))
  replace hO3 := (hO3.kept hK2 (fun z hz e => by have := (hO3.lt z hz).1; have := HLT.out; unfold only at e; omega))
  replace hO3 := (hO3.kept hK3 (fun z hz e => by have := (hO3.lt z hz).1; have := HLT.out; unfold only at e; omega))
  refine ⟨_, _, rfl, ⟨⟨_, _, _, by rw [HL.out], hO1.prs, hO2.sl, hO3.sl⟩, HWF.out⟩, ⟨⟨_, _, _, rfl, Prs.nil _ _, Sl.nil _ _ _, Sl.nil _ _ _⟩, ⟨by simp, by simp, by simp⟩⟩, k2⟩

set_option maxRecDepth 100000 in
set_option maxHeartbeats 1000000 in
theorem nsplit_none3 (x : Value) (n : Nd) (B : Nat) (w : World) (hN : Nv B w x n) (hB : B ≤ w.heap.size) (hl : n.leaf = false) (hpa : n.parts = false) (hg0 : 3 ≤ n.ks.length) (hg1 : ¬ n.kd.length = n.ks.length + 1) (hp : n.ps.length ≤ 1048576) (hk : n.ks.length ≤ 1048576) (hd : n.kd.length ≤ 1048576) :
    Calls Try.prog 22 #[x] w fun e w' => ∃ y z, e = .returned (.tuple #[y, z, .string n.mid]) ∧ Nv w'.heap.size w' y n.fst ∧ Nv w'.heap.size w' z n.snd ∧ Kp none' w w' := by
  obtain ⟨e1, e2, e3⟩ := split_none hpa
  rw [e1, e2, e3]
  clear e1 e2 e3
  have hN' := hN
  obtain ⟨⟨pv, kv, dv, rfl, hP, hS, hD⟩, hwf⟩ := hN
  obtain ⟨a1, c1, e1, _⟩ := id hP
  obtain ⟨a2, c2, e2, _⟩ := id hS
  obtain ⟨a3, c3, e3, _⟩ := id hD
  subst e1 e2 e3
  rw [hl] at hN' ⊢
  have nb := ((Nb.new w false (.slice a1 n.ps.length c1) (.slice a2 n.ks.length c2) (.slice a3 n.kd.length c3)).kept (Kp.alloc none' _ (.cells #[.bool false, .slice none 0 0, .slice none 0 0, .slice none 0 0] 26)) (fun h => h)).kept (Kp.alloc none' _ (.cells #[.bool false, .slice none 0 0, .slice none 0 0, .slice none 0 0] 26)) (fun h => h)
  have n2 := (Nb.new (w.alloc (.cells #[.bool false, .slice a1 n.ps.length c1, .slice a2 n.ks.length c2, .slice a3 n.kd.length c3] 26)) false (.slice none 0 0) (.slice none 0 0) (.slice none 0 0)).kept (Kp.alloc none' _ (.cells #[.bool false, .slice none 0 0, .slice none 0 0, .slice none 0 0] 26)) (fun h => h)
  have n3 := Nb.new ((w.alloc (.cells #[.bool false, .slice a1 n.ps.length c1, .slice a2 n.ks.length c2, .slice a3 n.kd.length c3] 26)).alloc (.cells #[.bool false, .slice none 0 0, .slice none 0 0, .slice none 0 0] 26)) false (.slice none 0 0) (.slice none 0 0) (.slice none 0 0)
  rw [show (w.alloc (.cells #[.bool false, .slice a1 n.ps.length c1, .slice a2 n.ks.length c2, .slice a3 n.kd.length c3] 26)).heap.size = w.heap.size + 1 by simp] at n2
  rw [show ((w.alloc (.cells #[.bool false, .slice a1 n.ps.length c1, .slice a2 n.ks.length c2, .slice a3 n.kd.length c3] 26)).alloc (.cells #[.bool false, .slice none 0 0, .slice none 0 0, .slice none 0 0] 26)).heap.size = w.heap.size + 1 + 1 by simp] at n3
  have hK0 : Kp none' w (((w.alloc (.cells #[.bool false, .slice a1 n.ps.length c1, .slice a2 n.ks.length c2, .slice a3 n.kd.length c3] 26)).alloc (.cells #[.bool false, .slice none 0 0, .slice none 0 0, .slice none 0 0] 26)).alloc (.cells #[.bool false, .slice none 0 0, .slice none 0 0, .slice none 0 0] 26)) := ((Kp.alloc _ _ _).thenN (Kp.alloc _ _ _)).thenN (Kp.alloc _ _ _)
  have HSL : Hid (∀ W : World, Kp none' w W → Calls Try.prog 42 #[.agg #[.bool false, .slice a1 n.ps.length c1, .slice a2 n.ks.length c2, .slice a3 n.kd.length c3]] W fun e w' => ∃ a m c a2 m2 c2 a3 m3 c3, e = .returned (.agg #[.bool false, .slice a m c, .slice a2 m2 c2, .slice a3 m3 c3]) ∧ OwP w' W.heap.size (.slice a m c) n.ps ∧ Ow Value.string 9 w' W.heap.size (.slice a2 m2 c2) n.ks ∧ Ow (Value.int .i64) 3 w' W.heap.size (.slice a3 m3 c3) n.kd ∧ Kp none' W w') := by
    intro W hk'
    have := copied_any _ n B W (hN'.keptN hk') (Nat.le_trans hB hk'.size) (by omega) (by omega) (by omega)
    rw [hl] at this
    exact this
  have HWF := hide hwf
  have HL := hide hl
  have hg : (3 : Int) ≤ (n.ks.length : Int) := by omega
  have hg' : ((n.kd.length : Int) == wrap64 ((n.ks.length : Int) + 1)) = false := by rw [beq_eq_false_iff_ne]; unfold wrap64; omega
  clear hg0 hg1
  clear hP hS hD hwf hN' hp hl hk hd hpa
  obtain ⟨lp, Hlp⟩ : ∃ l, Hid (n.ps.length = l) := ⟨_, rfl⟩
  obtain ⟨lk, Hlk⟩ : ∃ l, Hid (n.ks.length = l) := ⟨_, rfl⟩
  obtain ⟨ld, Hld⟩ : ∃ l, Hid (n.kd.length = l) := ⟨_, rfl⟩
  rw [Hlp.out, Hlk.out, Hld.out] at nb n2 n3 hK0 HSL ⊢
  rw [Hlk.out] at hg hg'
  rw [Hld.out] at hg'
  go_enter Try.func22, Try.ntmps22
  go_upto_region 1 with fail
  generalize ((w.alloc (.cells #[.bool false, .slice a1 lp c1, .slice a2 lk c2, .slice a3 ld c3] 26)).alloc (.cells #[.bool false, .slice none 0 0, .slice none 0 0, .slice none 0 0] 26)).alloc (.cells #[.bool false, .slice none 0 0, .slice none 0 0, .slice none 0 0] 26) = w0 at *
  have d0 := nb.c0
  have d1 := nb.c1
  have d2 := nb.c2
  have d3 := nb.c3
  have HLT : Hid (w.heap.size + 1 + 1 < w0.heap.size) := n3.lt
  go_upto_region 5 with fail
  go_wp2_with (first
    | (go_at_call 42; refine (HSL.out _ hK0).mono ?_; rintro e w1 ⟨a4, m4, c4, a5, m5, c5, a6, m6, c6, rfl, hO1, hO2, hO3, hK1⟩; replace n2 := n2.kept hK1 (fun h => h); replace n3 := n3.kept hK1 (fun h => h))
    | (refine nwpList_store_nb rfl rfl (.tmp 2) (.tmp 47) rfl (w.heap.size + 1) rfl rfl n2 ?_; clear n2; intro w2 n2 hK2; replace n3 := nb_far n3 (by omega) hK2)
    | (refine nwpList_store_nb rfl rfl (.tmp 3) (.tmp 48) rfl (w.heap.size + 1 + 1) rfl rfl n3 ?_; clear n3; intro w3 n3 hK3; replace n2 := nb_far n2 (by omega) hK3)
    | fail)
  refine bodyPost_ret (results_nb2t rfl _ (w.heap.size + 1) (w.heap.size + 1 + 1) _ (.string ⟨#[]⟩) rfl rfl rfl n2 n3) rfl ?_
  have k2 : Kp none' w w3 := kp_far (kp_far (hK0.thenN hK1) (by omega) hK2) (by omega) hK3
  replace hO1 := (hO1.kept hK2 (fun z hz e => by have := (hO1.lt z hz).1; have := HLT.out; unfold only at e; omega))
  replace hO1 := (hO1.kept hK3 (fun z hz e => by have := (hO1.lt z hz).1; have := HLT.out; unfold only at e; omega))
  replace hO2 := (hO2.kept hK2 (fun z hz e => by have := (hO2.lt z hz).1; have := HLT.out; unfold only at e; omega))
  replace hO2 := (hO2.kept hK3 (fun z hz e => by have := (hO2.lt z hz).1; have := HLT.out; unfold only at e; omega))
  replace hO3 := (hO3.kept hK2 (fun z hz e => by have := (hO3.lt z hz).1; have := HLT.out; unfold only at e; omega))
  replace hO3 := (hO3.kept hK3 (fun z hz e => by have := (hO3.lt z hz).1; have := HLT.out; unfold only at e; omega))
  refine ⟨_, _, rfl, ⟨⟨_, _, _, by rw [HL.out], hO1.prs, hO2.sl, hO3.sl⟩, HWF.out⟩, ⟨⟨_, _, _, rfl, Prs.nil _ _, Sl.nil _ _ _, Sl.nil _ _ _⟩, ⟨by simp, by simp, by simp⟩⟩, k2⟩

theorem split_any (x : Value) (n : Nd) (B : Nat) (w : World) (hN : Nv B w x n) (hB : B ≤ w.heap.size) (hp : n.ps.length ≤ 1048576) (hk : n.ks.length ≤ 1048576) (hd : n.kd.length ≤ 1048576) (hsz : n.size ≤ 4194304) :
    Calls Try.prog 22 #[x] w fun e w' => ∃ y z, e = .returned (.tuple #[y, z, .string n.mid]) ∧ Nv w'.heap.size w' y n.fst ∧ Nv w'.heap.size w' z n.snd ∧ Kp none' w w' := by
  cases hpa : n.parts with
  | false =>
    have hpa' := hpa
    unfold Nd.parts at hpa'
    cases hl : n.leaf with
    | true => rw [hl] at hpa'; simp at hpa'; exact nsplit_none1 x n B w hN hB hl hpa (by omega) hp hk hd
    | false =>
      rw [hl] at hpa'
      simp at hpa'
      by_cases h3 : 3 ≤ n.ks.length
      · exact nsplit_none3 x n B w hN hB hl hpa h3 (hpa' h3) hp hk hd
      · exact nsplit_none2 x n B w hN hB hl hpa h3 hp hk hd
  | true =>
    unfold Nd.parts at hpa
    cases hl : n.leaf with
    | true => rw [hl] at hpa; simp at hpa; exact nsplit_leaf x n B w hN hB hl hpa hp hsz
    | false => rw [hl] at hpa; simp at hpa; exact nsplit_inner x n B w hN hB hl hpa.1 hpa.2 hk hsz

end Go.Proofs.Ytjmkfkmdafjgnaa
