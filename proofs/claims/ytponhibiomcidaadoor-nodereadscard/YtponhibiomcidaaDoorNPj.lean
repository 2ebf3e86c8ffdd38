/- Contracts, over the turned program: Put and Cut. Conditions: those that each theorem states. -/
import Derived.Test.YtponhibiomcidaaDoorNPi
namespace Go.Proofs.YtponhibiomcidaaDoor
open Go Go.RowKit
set_option linter.unusedVariables false

theorem Prs.one (w : World) (p : Pr) (g : Nat) (hg : w.heap.size = g) : Prs (g + 1) (w.alloc (.cells #[.string p.k, .string p.v] 51)) (.slice (some ⟨g, 0, none⟩) 1 1) [p] := by
  subst hg
  refine ⟨_, _, rfl, by simp, by unfold maxLen; omega, fun i hi => ⟨w.heap.size, 0, rfl, by omega, ?_⟩⟩
  have h := heap_alloc_new w (.cells #[.string p.k, .string p.v] 51)
  have hi0 : i = 0 := by simpa using hi
  subst hi0
  constructor
  · rw [cell_of_row _ w.heap.size (0 + 0 * 2) _ 51 (0, 0) h]; rfl
  · rw [cell_of_row _ w.heap.size (0 + 0 * 2 + 1) _ 51 (0, 0) h]; rfl

set_option maxRecDepth 100000 in
set_option maxHeartbeats 1000000 in
theorem put_own (x : Value) (n : Nd) (B : Nat) (k v : ByteArray) (w : World) (hN : Nv B w x n) (hkm : k.size ≤ maxLen) (hvm : v.size ≤ maxLen) (hp : n.ps.length ≤ 2097152) :
    Calls Tryd.prog 8 #[x, .string k, .string v] w fun e w' => ∃ a m c, e = .returned (.agg #[.bool true, .slice a m c, .slice none 0 0, .slice none 0 0]) ∧ OwP w' w.heap.size (.slice a m c) (n.put k v).ps ∧ Kp none' w w' := by
  have hN' := hN
  obtain ⟨⟨pv, kv, dv, rfl, hP, hS, hD⟩, hwf⟩ := hN'
  obtain ⟨a, c, rfl, _⟩ := hP
  obtain ⟨a2, c2, rfl, _⟩ := hS
  obtain ⟨a3, c3, rfl, _⟩ := hD
  have hwp := hwf.p
  obtain ⟨A, HA⟩ : ∃ A, Hid (n.ps.take (findN n.ps k) = A) := ⟨n.ps.take (findN n.ps k), hide rfl⟩
  obtain ⟨D, HD⟩ : ∃ D, Hid (n.ps.drop (behind n.ps k) = D) := ⟨n.ps.drop (behind n.ps k), hide rfl⟩
  have HCUT : Hid (n.put k v = ⟨true, [A, [⟨k, v⟩], D].flatten, [], []⟩) := by show _ = _; unfold Nd.put; rw [HA.out, HD.out]; simp
  have HWL : Hid (∀ p ∈ [A, [⟨k, v⟩], D].flatten, p.k.size ≤ maxLen ∧ p.v.size ≤ maxLen) := by
    intro p hp
    simp only [List.flatten_cons, List.flatten_nil, List.append_nil, List.mem_append, List.mem_singleton] at hp
    rcases hp with hp | hp | hp
    · rw [← HA.out] at hp; exact hwp p (List.mem_of_mem_take hp)
    · rw [hp]; exact ⟨hkm, hvm⟩
    · rw [← HD.out] at hp; exact hwp p (List.mem_of_mem_drop hp)
  have HLN : Hid ([A, [⟨k, v⟩], D].flatten.length ≤ 100000000) := by
    show _ ≤ _
    simp only [List.flatten_cons, List.flatten_nil, List.append_nil, List.length_append, List.length_cons, List.length_nil]
    rw [← HA.out, ← HD.out, List.length_take, List.length_drop]
    omega
  have hb0 := (Nb.new w n.leaf (.slice a n.ps.length c) (.slice a2 n.ks.length c2) (.slice a3 n.kd.length c3)).kept (Kp.alloc none' _ (.cells #[.bool false, .slice none 0 0, .slice none 0 0, .slice none 0 0] 27)) (fun h => h)
  have hr0 := Nb.new (w.alloc (.cells #[.bool n.leaf, .slice a n.ps.length c, .slice a2 n.ks.length c2, .slice a3 n.kd.length c3] 27)) false (.slice none 0 0) (.slice none 0 0) (.slice none 0 0)
  rw [show (w.alloc (.cells #[.bool n.leaf, .slice a n.ps.length c, .slice a2 n.ks.length c2, .slice a3 n.kd.length c3] 27)).heap.size = w.heap.size + 1 by simp] at hr0
  have hK0 : Kp none' w ((w.alloc (.cells #[.bool n.leaf, .slice a n.ps.length c, .slice a2 n.ks.length c2, .slice a3 n.kd.length c3] 27)).alloc (.cells #[.bool false, .slice none 0 0, .slice none 0 0, .slice none 0 0] 27)) := (Kp.alloc _ _ _).thenN (Kp.alloc _ _ _)
  have HAR : Hid (∀ W : World, Kp none' w W → Calls Tryd.prog 21 #[.agg #[.bool n.leaf, .slice a n.ps.length c, .slice a2 n.ks.length c2, .slice a3 n.kd.length c3], .string k] W fun e w' => ∃ a1 c1 a2 c2, e = .returned (.tuple #[.slice a1 A.length c1, .slice a2 D.length c2]) ∧ Prs B w' (.slice a1 A.length c1) A ∧ Prs B w' (.slice a2 D.length c2) D ∧ Kp none' W w') := by
    intro W hk
    refine (around_any _ n B k W (hN.keptN hk)).mono ?_
    rintro e w' ⟨v1, v2, rfl, h1, h2, h3⟩
    rw [HA.out] at h1
    rw [HD.out] at h2
    have h1' := h1
    have h2' := h2
    obtain ⟨b1, e1, rfl, _⟩ := h1'
    obtain ⟨b2, e2, rfl, _⟩ := h2'
    exact ⟨b1, e1, b2, e2, rfl, h1, h2, h3⟩
  rw [HCUT.out]
  obtain ⟨lA, HlA⟩ : ∃ l, Hid (A.length = l) := ⟨A.length, hide rfl⟩
  obtain ⟨lD, HlD⟩ : ∃ l, Hid (D.length = l) := ⟨D.length, hide rfl⟩
  rw [HlA.out, HlD.out] at HAR
  have d0 := hb0.c0
  have d1 := hb0.c1
  have d2 := hb0.c2
  have d3 := hb0.c3
  clear hN hwf hwp HA HD
  obtain ⟨L, HL⟩ : ∃ L, Hid ([A, [⟨k, v⟩], D].flatten = L) := ⟨[A, [⟨k, v⟩], D].flatten, hide rfl⟩
  rw [HL.out] at HWL HLN ⊢
  obtain ⟨m, Hm⟩ : ∃ m, Hid (L.length = m) := ⟨L.length, hide rfl⟩
  go_enter Tryd.func8, Tryd.ntmps8
  go_upto_region 2 with (first
    | (go_at_call 21; refine (HAR.out _ hK0).mono ?_; rintro e w1 ⟨a4, c4, a5, c5, rfl, hA1, hD1, hK1⟩)
    | fail)
  have hr1 := hr0.kept hK1 (fun h => h)
  have HLT : Hid (w.heap.size + 1 < w1.heap.size) := hr1.lt
  have hKq : Kp none' w1 (w1.alloc (.cells #[.string k, .string v] 51)) := Kp.alloc _ _ _
  have hKp : Kp none' (w1.alloc (.cells #[.string k, .string v] 51)) ((w1.alloc (.cells #[.string k, .string v] 51)).alloc (.cells #[.slice a4 lA c4, .slice (some ⟨w1.heap.size, 0, none⟩) 1 1, .slice a5 lD c5] 23)) := Kp.alloc _ _ _
  have hsz1 : (w1.alloc (.cells #[.string k, .string v] 51)).heap.size = w1.heap.size + 1 := by simp
  have hBle : B ≤ B + w1.heap.size + 1 := by omega
  have HLF : Hid (Calls Tryd.prog 22 #[.slice (some ⟨w1.heap.size + 1, 0, none⟩) 3 3] ((w1.alloc (.cells #[.string k, .string v] 51)).alloc (.cells #[.slice a4 lA c4, .slice (some ⟨w1.heap.size, 0, none⟩) 1 1, .slice a5 lD c5] 23)) fun e w' => ∃ a c, e = .returned (.agg #[.bool true, .slice a m c, .slice none 0 0, .slice none 0 0]) ∧ OwP w' w1.heap.size (.slice a m c) L ∧ Kp none' w1 w' ∧ Nb w' (w.heap.size + 1) false (.slice none 0 0) (.slice none 0 0) (.slice none 0 0)) := by
    rw [← HL.out] at HLN
    refine (leaf_any _ [.slice a4 lA c4, .slice (some ⟨w1.heap.size, 0, none⟩) 1 1, .slice a5 lD c5] [A, [⟨k, v⟩], D] (w1.heap.size + 1 + 1) (B + w1.heap.size + 1) _ (parts_new (w1.alloc (.cells #[.string k, .string v] 51)) [.slice a4 lA c4, .slice (some ⟨w1.heap.size, 0, none⟩) 1 1, .slice a5 lD c5] 23 (w1.heap.size + 1) 3 hsz1 rfl (by omega)) rfl ?_ HLN.out).mono ?_
    · intro i h h'
      match i, h with
      | 0, _ => exact (hA1.keptN (hKq.thenN hKp)).mono hBle
      | 1, _ => exact ((Prs.one w1 ⟨k, v⟩ w1.heap.size rfl).keptN hKp).mono (by omega)
      | 2, _ => exact (hD1.keptN (hKq.thenN hKp)).mono hBle
    · rintro e w' ⟨b, e', rfl, hO, hK⟩
      rw [HL.out, Hm.out] at *
      exact ⟨b, e', rfl, hO.mono (by simp; omega), (hKq.thenN hKp).thenN hK, hr1.kept ((hKq.thenN hKp).thenN hK) (fun h => h)⟩
  clear HAR hA1 hD1 hb0 hr0 d0 d1 d2 d3 hBle
  go_wp2_with (first
    | (go_at_call 22; refine HLF.out.mono ?_; rintro e w2 ⟨a6, c6, rfl, hO2, hK2, hr2⟩; have HPT := hide (hr2.put true (.slice a6 m c6) (.slice none 0 0) (.slice none 0 0)); have hd0 := hr2.c0; have hd1 := hr2.c1; have hd2 := hr2.c2; have hd3 := hr2.c3; have hf0 := hr2.fz 0; have hf1 := hr2.fz 1; have hf2 := hr2.fz 2; have hf3 := hr2.fz 3)
    | fail)
  refine bodyPost_ret (results_nb1 rfl _ (w.heap.size + 1) _ rfl HPT.out.1) rfl ?_
  refine ⟨_, _, _, rfl, ?_, ?_⟩
  · exact (hO2.kept HPT.out.2 (fun z hz hzo => by have := (hO2.lt z hz).1; have := HLT.out; unfold only at hzo; omega)).mono (by have := HLT.out; omega)
  · exact (hK0.thenN (hK1.thenN hK2)).trans HPT.out.2 (fun _ _ h => h) (fun z hz hzo => by unfold only at hzo; omega)

theorem put_wf {n : Nd} (h : n.wf) (k v : ByteArray) (hkm : k.size ≤ maxLen) (hvm : v.size ≤ maxLen) : ∀ p ∈ (n.put k v).ps, p.k.size ≤ maxLen ∧ p.v.size ≤ maxLen := by
  intro p hp
  simp only [Nd.put, List.mem_append, List.mem_singleton] at hp
  rcases hp with (hp | hp) | hp
  · exact h.p p (List.mem_of_mem_take hp)
  · rw [hp]; exact ⟨hkm, hvm⟩
  · exact h.p p (List.mem_of_mem_drop hp)
theorem cut_wf {n : Nd} (h : n.wf) (k : ByteArray) : ∀ p ∈ (n.cut k).ps, p.k.size ≤ maxLen ∧ p.v.size ≤ maxLen := by
  intro p hp
  simp only [Nd.cut, List.mem_append] at hp
  rcases hp with hp | hp
  · exact h.p p (List.mem_of_mem_take hp)
  · exact h.p p (List.mem_of_mem_drop hp)
theorem put_any (x : Value) (n : Nd) (B : Nat) (k v : ByteArray) (w : World) (hN : Nv B w x n) (hkm : k.size ≤ maxLen) (hvm : v.size ≤ maxLen) (hp : n.ps.length ≤ 2097152) :
    Calls Tryd.prog 8 #[x, .string k, .string v] w fun e w' => ∃ y, e = .returned y ∧ Nv w'.heap.size w' y (n.put k v) ∧ Kp none' w w' := by
  refine (put_own x n B k v w hN hkm hvm hp).mono ?_
  rintro e w' ⟨a, m, c, rfl, hO, hK⟩
  exact ⟨_, rfl, Nv.own hO.prs (put_wf hN.wf k v hkm hvm), hK⟩
end Go.Proofs.YtponhibiomcidaaDoor
