/- Contracts, over the turned program: what the document's Split answers. Conditions: those that each theorem states. -/
import Derived.Test.YtjmkfkmdafjgnaaNRefM
import Derived.Test.YtjmkfkmdafjgnaaNOrd2
namespace Go.Proofs.Ytjmkfkmdafjgnaa
open Go Go.RowKit
set_option linter.unusedVariables false

set_option maxRecDepth 100000 in
set_option maxHeartbeats 1000000 in
theorem rsplit9_none1 (x : Value) (n : Nd) (B : Nat) (w : World) (hN : Nv B w x n) (hl : n.leaf = true) (hpa : n.parts = false) (hg0 : ¬ 2 ≤ n.ps.length) (hp : n.ps.length ≤ 1048576) (hk : n.ks.length ≤ 1048576) (hd : n.kd.length ≤ 1048576) (hB : B ≤ w.heap.size) :
    Calls Try.prog 23 #[x] w fun e w' => ∃ y z, e = .returned (.tuple #[y, z, .string n.mid]) ∧ Nv B w' y n.fst ∧ Nv B w' z n.snd ∧ Kp none' w w' := by
  obtain ⟨e1, e2, e3⟩ := split_none hpa
  rw [e1, e2, e3]
  clear e1 e2 e3
  obtain ⟨a1, c1, a2, c2, a3, c3, rfl⟩ := nv_open hN
  rw [hl] at hN ⊢
  have nb := ((Nb.new w true (.slice a1 n.ps.length c1) (.slice a2 n.ks.length c2) (.slice a3 n.kd.length c3)).kept (Kp.alloc none' _ (.cells #[.bool false, .slice none 0 0, .slice none 0 0, .slice none 0 0] 26)) (fun h => h)).kept (Kp.alloc none' _ (.cells #[.bool false, .slice none 0 0, .slice none 0 0, .slice none 0 0] 26)) (fun h => h)
  have n2 := (Nb.new (w.alloc (.cells #[.bool true, .slice a1 n.ps.length c1, .slice a2 n.ks.length c2, .slice a3 n.kd.length c3] 26)) false (.slice none 0 0) (.slice none 0 0) (.slice none 0 0)).kept (Kp.alloc none' _ (.cells #[.bool false, .slice none 0 0, .slice none 0 0, .slice none 0 0] 26)) (fun h => h)
  have n3 := Nb.new ((w.alloc (.cells #[.bool true, .slice a1 n.ps.length c1, .slice a2 n.ks.length c2, .slice a3 n.kd.length c3] 26)).alloc (.cells #[.bool false, .slice none 0 0, .slice none 0 0, .slice none 0 0] 26)) false (.slice none 0 0) (.slice none 0 0) (.slice none 0 0)
  rw [show (w.alloc (.cells #[.bool true, .slice a1 n.ps.length c1, .slice a2 n.ks.length c2, .slice a3 n.kd.length c3] 26)).heap.size = w.heap.size + 1 by simp] at n2
  rw [show ((w.alloc (.cells #[.bool true, .slice a1 n.ps.length c1, .slice a2 n.ks.length c2, .slice a3 n.kd.length c3] 26)).alloc (.cells #[.bool false, .slice none 0 0, .slice none 0 0, .slice none 0 0] 26)).heap.size = w.heap.size + 1 + 1 by simp] at n3
  have hK0 : Kp none' w (((w.alloc (.cells #[.bool true, .slice a1 n.ps.length c1, .slice a2 n.ks.length c2, .slice a3 n.kd.length c3] 26)).alloc (.cells #[.bool false, .slice none 0 0, .slice none 0 0, .slice none 0 0] 26)).alloc (.cells #[.bool false, .slice none 0 0, .slice none 0 0, .slice none 0 0] 26)) := ((Kp.alloc _ _ _).thenN (Kp.alloc _ _ _)).thenN (Kp.alloc _ _ _)
  have hg : ¬ (2 : Int) ≤ (n.ps.length : Int) := by omega
  clear hg0
  have HN := hide hN
  clear hN hp hk hd hpa
  obtain ⟨lp, Hlp⟩ : ∃ l, Hid (n.ps.length = l) := ⟨_, rfl⟩
  obtain ⟨lk, Hlk⟩ : ∃ l, Hid (n.ks.length = l) := ⟨_, rfl⟩
  obtain ⟨ld, Hld⟩ : ∃ l, Hid (n.kd.length = l) := ⟨_, rfl⟩
  rw [Hlp.out, Hlk.out, Hld.out] at nb n2 n3 hK0 HN ⊢
  rw [Hlp.out] at hg
  have hgi : decide ((2 : Int) ≤ (lp : Int)) = false := decide_eq_false hg
  clear hg
  go_enter Try.func23, Try.ntmps23
  go_upto_region 1 with fail
  generalize ((w.alloc (.cells #[.bool true, .slice a1 lp c1, .slice a2 lk c2, .slice a3 ld c3] 26)).alloc (.cells #[.bool false, .slice none 0 0, .slice none 0 0, .slice none 0 0] 26)).alloc (.cells #[.bool false, .slice none 0 0, .slice none 0 0, .slice none 0 0] 26) = w0 at *
  have d0 := nb.c0
  have d1 := nb.c1
  have d2 := nb.c2
  have d3 := nb.c3
  go_upto_region 17 with fail
  go_wp2_with (first
    | (refine nwpList_store_nb rfl rfl (.tmp 2) (.tmp 142) rfl (w.heap.size + 1) rfl rfl n2 ?_; clear n2; intro w2 n2 hK2; replace n3 := nb_far n3 (by omega) hK2)
    | (refine nwpList_store_nb rfl rfl (.tmp 3) (.tmp 143) rfl (w.heap.size + 1 + 1) rfl rfl n3 ?_; clear n3; intro w3 n3 hK3; replace n2 := nb_far n2 (by omega) hK3)
    | fail)
  refine bodyPost_ret (results_nb2t rfl _ (w.heap.size + 1) (w.heap.size + 1 + 1) _ (.string ⟨#[]⟩) rfl rfl rfl n2 n3) rfl ?_
  have k2 : Kp none' w w3 := kp_far (kp_far hK0 (by omega) hK2) (by omega) hK3
  exact ⟨_, _, rfl, HN.out.keptN k2, ⟨⟨_, _, _, rfl, Prs.nil _ _, Sl.nil _ _ _, Sl.nil _ _ _⟩, ⟨by simp, by simp, by simp⟩⟩, k2⟩

set_option maxRecDepth 100000 in
set_option maxHeartbeats 1000000 in
theorem rsplit9_none2 (x : Value) (n : Nd) (B : Nat) (w : World) (hN : Nv B w x n) (hl : n.leaf = false) (hpa : n.parts = false) (hg0 : ¬ 3 ≤ n.ks.length) (hp : n.ps.length ≤ 1048576) (hk : n.ks.length ≤ 1048576) (hd : n.kd.length ≤ 1048576) (hB : B ≤ w.heap.size) :
    Calls Try.prog 23 #[x] w fun e w' => ∃ y z, e = .returned (.tuple #[y, z, .string n.mid]) ∧ Nv B w' y n.fst ∧ Nv B w' z n.snd ∧ Kp none' w w' := by
  obtain ⟨e1, e2, e3⟩ := split_none hpa
  rw [e1, e2, e3]
  clear e1 e2 e3
  obtain ⟨a1, c1, a2, c2, a3, c3, rfl⟩ := nv_open hN
  rw [hl] at hN ⊢
  have nb := ((Nb.new w false (.slice a1 n.ps.length c1) (.slice a2 n.ks.length c2) (.slice a3 n.kd.length c3)).kept (Kp.alloc none' _ (.cells #[.bool false, .slice none 0 0, .slice none 0 0, .slice none 0 0] 26)) (fun h => h)).kept (Kp.alloc none' _ (.cells #[.bool false, .slice none 0 0, .slice none 0 0, .slice none 0 0] 26)) (fun h => h)
  have n2 := (Nb.new (w.alloc (.cells #[.bool false, .slice a1 n.ps.length c1, .slice a2 n.ks.length c2, .slice a3 n.kd.length c3] 26)) false (.slice none 0 0) (.slice none 0 0) (.slice none 0 0)).kept (Kp.alloc none' _ (.cells #[.bool false, .slice none 0 0, .slice none 0 0, .slice none 0 0] 26)) (fun h => h)
  have n3 := Nb.new ((w.alloc (.cells #[.bool false, .slice a1 n.ps.length c1, .slice a2 n.ks.length c2, .slice a3 n.kd.length c3] 26)).alloc (.cells #[.bool false, .slice none 0 0, .slice none 0 0, .slice none 0 0] 26)) false (.slice none 0 0) (.slice none 0 0) (.slice none 0 0)
  rw [show (w.alloc (.cells #[.bool false, .slice a1 n.ps.length c1, .slice a2 n.ks.length c2, .slice a3 n.kd.length c3] 26)).heap.size = w.heap.size + 1 by simp] at n2
  rw [show ((w.alloc (.cells #[.bool false, .slice a1 n.ps.length c1, .slice a2 n.ks.length c2, .slice a3 n.kd.length c3] 26)).alloc (.cells #[.bool false, .slice none 0 0, .slice none 0 0, .slice none 0 0] 26)).heap.size = w.heap.size + 1 + 1 by simp] at n3
  have hK0 : Kp none' w (((w.alloc (.cells #[.bool false, .slice a1 n.ps.length c1, .slice a2 n.ks.length c2, .slice a3 n.kd.length c3] 26)).alloc (.cells #[.bool false, .slice none 0 0, .slice none 0 0, .slice none 0 0] 26)).alloc (.cells #[.bool false, .slice none 0 0, .slice none 0 0, .slice none 0 0] 26)) := ((Kp.alloc _ _ _).thenN (Kp.alloc _ _ _)).thenN (Kp.alloc _ _ _)
  have hg : ¬ (3 : Int) ≤ (n.ks.length : Int) := by omega
  clear hg0
  have HN := hide hN
  clear hN hp hk hd hpa
  obtain ⟨lp, Hlp⟩ : ∃ l, Hid (n.ps.length = l) := ⟨_, rfl⟩
  obtain ⟨lk, Hlk⟩ : ∃ l, Hid (n.ks.length = l) := ⟨_, rfl⟩
  obtain ⟨ld, Hld⟩ : ∃ l, Hid (n.kd.length = l) := ⟨_, rfl⟩
  rw [Hlp.out, Hlk.out, Hld.out] at nb n2 n3 hK0 HN ⊢
  rw [Hlk.out] at hg
  have hgi : decide ((3 : Int) ≤ (lk : Int)) = false := decide_eq_false hg
  clear hg
  go_enter Try.func23, Try.ntmps23
  go_upto_region 1 with fail
  generalize ((w.alloc (.cells #[.bool false, .slice a1 lp c1, .slice a2 lk c2, .slice a3 ld c3] 26)).alloc (.cells #[.bool false, .slice none 0 0, .slice none 0 0, .slice none 0 0] 26)).alloc (.cells #[.bool false, .slice none 0 0, .slice none 0 0, .slice none 0 0] 26) = w0 at *
  have d0 := nb.c0
  have d1 := nb.c1
  have d2 := nb.c2
  have d3 := nb.c3
  go_upto_region 17 with fail
  go_wp2_with (first
    | (refine nwpList_store_nb rfl rfl (.tmp 2) (.tmp 142) rfl (w.heap.size + 1) rfl rfl n2 ?_; clear n2; intro w2 n2 hK2; replace n3 := nb_far n3 (by omega) hK2)
    | (refine nwpList_store_nb rfl rfl (.tmp 3) (.tmp 143) rfl (w.heap.size + 1 + 1) rfl rfl n3 ?_; clear n3; intro w3 n3 hK3; replace n2 := nb_far n2 (by omega) hK3)
    | fail)
  refine bodyPost_ret (results_nb2t rfl _ (w.heap.size + 1) (w.heap.size + 1 + 1) _ (.string ⟨#[]⟩) rfl rfl rfl n2 n3) rfl ?_
  have k2 : Kp none' w w3 := kp_far (kp_far hK0 (by omega) hK2) (by omega) hK3
  exact ⟨_, _, rfl, HN.out.keptN k2, ⟨⟨_, _, _, rfl, Prs.nil _ _, Sl.nil _ _ _, Sl.nil _ _ _⟩, ⟨by simp, by simp, by simp⟩⟩, k2⟩

set_option maxRecDepth 100000 in
set_option maxHeartbeats 1000000 in
theorem rsplit9_none3 (x : Value) (n : Nd) (B : Nat) (w : World) (hN : Nv B w x n) (hl : n.leaf = false) (hpa : n.parts = false) (hg0 : 3 ≤ n.ks.length) (hg1 : ¬ n.kd.length = n.ks.length + 1) (hp : n.ps.length ≤ 1048576) (hk : n.ks.length ≤ 1048576) (hd : n.kd.length ≤ 1048576) (hB : B ≤ w.heap.size) :
    Calls Try.prog 23 #[x] w fun e w' => ∃ y z, e = .returned (.tuple #[y, z, .string n.mid]) ∧ Nv B w' y n.fst ∧ Nv B w' z n.snd ∧ Kp none' w w' := by
  obtain ⟨e1, e2, e3⟩ := split_none hpa
  rw [e1, e2, e3]
  clear e1 e2 e3
  obtain ⟨a1, c1, a2, c2, a3, c3, rfl⟩ := nv_open hN
  rw [hl] at hN ⊢
  have nb := ((Nb.new w false (.slice a1 n.ps.length c1) (.slice a2 n.ks.length c2) (.slice a3 n.kd.length c3)).kept (Kp.alloc none' _ (.cells #[.bool false, .slice none 0 0, .slice none 0 0, .slice none 0 0] 26)) (fun h => h)).kept (Kp.alloc none' _ (.cells #[.bool false, .slice none 0 0, .slice none 0 0, .slice none 0 0] 26)) (fun h => h)
  have n2 := (Nb.new (w.alloc (.cells #[.bool false, .slice a1 n.ps.length c1, .slice a2 n.ks.length c2, .slice a3 n.kd.length c3] 26)) false (.slice none 0 0) (.slice none 0 0) (.slice none 0 0)).kept (Kp.alloc none' _ (.cells #[.bool false, .slice none 0 0, .slice none 0 0, .slice none 0 0] 26)) (fun h => h)
  have n3 := Nb.new ((w.alloc (.cells #[.bool false, .slice a1 n.ps.length c1, .slice a2 n.ks.length c2, .slice a3 n.kd.length c3] 26)).alloc (.cells #[.bool false, .slice none 0 0, .slice none 0 0, .slice none 0 0] 26)) false (.slice none 0 0) (.slice none 0 0) (.slice none 0 0)
  rw [show (w.alloc (.cells #[.bool false, .slice a1 n.ps.length c1, .slice a2 n.ks.length c2, .slice a3 n.kd.length c3] 26)).heap.size = w.heap.size + 1 by simp] at n2
  rw [show ((w.alloc (.cells #[.bool false, .slice a1 n.ps.length c1, .slice a2 n.ks.length c2, .slice a3 n.kd.length c3] 26)).alloc (.cells #[.bool false, .slice none 0 0, .slice none 0 0, .slice none 0 0] 26)).heap.size = w.heap.size + 1 + 1 by simp] at n3
  have hK0 : Kp none' w (((w.alloc (.cells #[.bool false, .slice a1 n.ps.length c1, .slice a2 n.ks.length c2, .slice a3 n.kd.length c3] 26)).alloc (.cells #[.bool false, .slice none 0 0, .slice none 0 0, .slice none 0 0] 26)).alloc (.cells #[.bool false, .slice none 0 0, .slice none 0 0, .slice none 0 0] 26)) := ((Kp.alloc _ _ _).thenN (Kp.alloc _ _ _)).thenN (Kp.alloc _ _ _)
  have hg : (3 : Int) ≤ (n.ks.length : Int) := by omega
  have hg' : ((n.kd.length : Int) == wrap64 ((n.ks.length : Int) + 1)) = false := by rw [beq_eq_false_iff_ne]; unfold wrap64; omega
  clear hg0 hg1
  have HN := hide hN
  clear hN hp hk hd hpa
  obtain ⟨lp, Hlp⟩ : ∃ l, Hid (n.ps.length = l) := ⟨_, rfl⟩
  obtain ⟨lk, Hlk⟩ : ∃ l, Hid (n.ks.length = l) := ⟨_, rfl⟩
  obtain ⟨ld, Hld⟩ : ∃ l, Hid (n.kd.length = l) := ⟨_, rfl⟩
  rw [Hlp.out, Hlk.out, Hld.out] at nb n2 n3 hK0 HN ⊢
  rw [Hlk.out] at hg hg'
  rw [Hld.out] at hg'
  go_enter Try.func23, Try.ntmps23
  go_upto_region 1 with fail
  generalize ((w.alloc (.cells #[.bool false, .slice a1 lp c1, .slice a2 lk c2, .slice a3 ld c3] 26)).alloc (.cells #[.bool false, .slice none 0 0, .slice none 0 0, .slice none 0 0] 26)).alloc (.cells #[.bool false, .slice none 0 0, .slice none 0 0, .slice none 0 0] 26) = w0 at *
  have d0 := nb.c0
  have d1 := nb.c1
  have d2 := nb.c2
  have d3 := nb.c3
  go_upto_region 17 with fail
  go_wp2_with (first
    | (refine nwpList_store_nb rfl rfl (.tmp 2) (.tmp 142) rfl (w.heap.size + 1) rfl rfl n2 ?_; clear n2; intro w2 n2 hK2; replace n3 := nb_far n3 (by omega) hK2)
    | (refine nwpList_store_nb rfl rfl (.tmp 3) (.tmp 143) rfl (w.heap.size + 1 + 1) rfl rfl n3 ?_; clear n3; intro w3 n3 hK3; replace n2 := nb_far n2 (by omega) hK3)
    | fail)
  refine bodyPost_ret (results_nb2t rfl _ (w.heap.size + 1) (w.heap.size + 1 + 1) _ (.string ⟨#[]⟩) rfl rfl rfl n2 n3) rfl ?_
  have k2 : Kp none' w w3 := kp_far (kp_far hK0 (by omega) hK2) (by omega) hK3
  exact ⟨_, _, rfl, HN.out.keptN k2, ⟨⟨_, _, _, rfl, Prs.nil _ _, Sl.nil _ _ _, Sl.nil _ _ _⟩, ⟨by simp, by simp, by simp⟩⟩, k2⟩

theorem rsplit9_any (x : Value) (n : Nd) (B : Nat) (w : World) (hN : Nv B w x n) (hB : B ≤ w.heap.size) (hp : n.ps.length ≤ 1048576) (hk : n.ks.length ≤ 1048576) (hd : n.kd.length ≤ 1048576) (hsz : n.size ≤ 4194304) :
    Calls Try.prog 23 #[x] w fun e w' => ∃ y z, e = .returned (.tuple #[y, z, .string n.mid]) ∧ Nv B w' y n.fst ∧ Nv B w' z n.snd ∧ Kp none' w w' := by
  cases hpa : n.parts with
  | false =>
    have hpa' := hpa
    unfold Nd.parts at hpa'
    cases hl : n.leaf with
    | true => rw [hl] at hpa'; simp at hpa'; exact rsplit9_none1 x n B w hN hl hpa (by omega) hp hk hd hB
    | false =>
      rw [hl] at hpa'
      simp at hpa'
      by_cases h3 : 3 ≤ n.ks.length
      · exact rsplit9_none3 x n B w hN hl hpa h3 (hpa' h3) hp hk hd hB
      · exact rsplit9_none2 x n B w hN hl hpa h3 hp hk hd hB
  | true =>
    unfold Nd.parts at hpa
    cases hl : n.leaf with
    | true => rw [hl] at hpa; simp at hpa; exact rsplit9_leaf x n B w hN hB hl hpa hp hsz
    | false => rw [hl] at hpa; simp at hpa; exact rsplit9_inner x n B w hN hB hl hpa.1 hpa.2 hk hsz

end Go.Proofs.Ytjmkfkmdafjgnaa
