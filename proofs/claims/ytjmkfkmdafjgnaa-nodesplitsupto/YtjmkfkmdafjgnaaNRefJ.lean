/- Contracts, over the turned program: what the document's Join answers of leaves. Conditions: those that each theorem states. -/
import Derived.Test.YtjmkfkmdafjgnaaNRefP
namespace Go.Proofs.Ytjmkfkmdafjgnaa
open Go Go.RowKit
set_option linter.unusedVariables false

set_option maxRecDepth 100000 in
set_option maxHeartbeats 2000000 in
theorem rjoin9_leaf (x y : Value) (n m : Nd) (B : Nat) (k : ByteArray) (w : World) (hN : Nv B w x n) (hM : Nv B w y m) (hl : n.leaf = true) (hp : n.ps.length ≤ 1048576) (hp' : m.ps.length ≤ 1048576) :
    Calls Try.prog 25 #[x, y, .string k] w fun e w' => ∃ z, e = .returned z ∧ Nv w'.heap.size w' z (n.join m k) ∧ Kp none' w w' := by
  have HJ : Hid (n.join m k = ⟨true, n.ps ++ m.ps, [], []⟩) := by show _ = _; unfold Nd.join; simp [hl]
  have HWL : Hid (∀ p ∈ n.ps ++ m.ps, p.k.size ≤ maxLen ∧ p.v.size ≤ maxLen) := by
    intro p hp
    rcases List.mem_append.1 hp with hp | hp
    · exact hN.wf.p p hp
    · exact hM.wf.p p hp
  rw [HJ.out]
  obtain ⟨⟨pv, kv, dv, rfl, hP, hS, hD⟩, _⟩ := hN
  obtain ⟨⟨pv', kv', dv', rfl, hP', hS', hD'⟩, _⟩ := hM
  obtain ⟨lf, ps, ks, kd⟩ := n
  obtain ⟨lf', ps', ks', kd'⟩ := m
  dsimp only at *
  subst hl
  obtain ⟨o0, ho0⟩ : ∃ o, o = Obj.cells #[.bool true, pv, kv, dv] 26 := ⟨_, rfl⟩
  obtain ⟨o1, ho1⟩ : ∃ o, o = Obj.cells #[.bool lf', pv', kv', dv'] 26 := ⟨_, rfl⟩
  obtain ⟨o2, ho2⟩ : ∃ o, o = Obj.cells #[.bool false, .slice none 0 0, .slice none 0 0, .slice none 0 0] 26 := ⟨_, rfl⟩
  have hx0 : Nb (w.alloc o0) w.heap.size true pv kv dv := by rw [ho0]; exact Nb.new _ _ _ _ _
  have hy0 : Nb ((w.alloc o0).alloc o1) (w.heap.size + 1) lf' pv' kv' dv' := by
    have := Nb.new (w.alloc o0) lf' pv' kv' dv'
    rw [show (w.alloc o0).heap.size = w.heap.size + 1 by simp, ← ho1] at this
    exact this
  have hr0 : Nb (((w.alloc o0).alloc o1).alloc o2) (w.heap.size + 1 + 1) false (.slice none 0 0) (.slice none 0 0) (.slice none 0 0) := by
    have := Nb.new ((w.alloc o0).alloc o1) false (.slice none 0 0) (.slice none 0 0) (.slice none 0 0)
    rw [show ((w.alloc o0).alloc o1).heap.size = w.heap.size + 1 + 1 by simp, ← ho2] at this
    exact this
  have hx1 := (hx0.kept (Kp.alloc none' _ o1) (fun h => h)).kept (Kp.alloc none' _ o2) (fun h => h)
  have hy1 := hy0.kept (Kp.alloc none' _ o2) (fun h => h)
  have hK0 : Kp none' w (((w.alloc o0).alloc o1).alloc o2) := ((Kp.alloc _ _ _).thenN (Kp.alloc _ _ _)).thenN (Kp.alloc _ _ _)
  subst ho0 ho1 ho2
  go_enter Try.func25, Try.ntmps25
  go_upto_region 2 with fail
  generalize ((w.alloc (Obj.cells #[.bool true, pv, kv, dv] 26)).alloc (Obj.cells #[.bool lf', pv', kv', dv'] 26)).alloc (Obj.cells #[.bool false, .slice none 0 0, .slice none 0 0, .slice none 0 0] 26) = w1 at *
  have hKa := hK0.thenN (Kp.drew none' w1)
  have hx := hx1.kept (Kp.drew none' w1) (fun h => h)
  have hy := hy1.kept (Kp.drew none' w1) (fun h => h)
  have hr1 := hr0.kept (Kp.drew none' w1) (fun h => h)
  have c1 := hx.c1
  have d1 := hy.c1
  have hP1 := hP.keptN hKa
  have hP1' := hP'.keptN hKa
  obtain ⟨a, c, rfl, _⟩ := hP
  obtain ⟨a', c', rfl, _⟩ := hP'
  obtain ⟨v2, w2, hq2, hO2, hg2, hv2⟩ := appP w1.drew w1.drew.heap.size (.slice none 0 0) _ [] ps (OwP.nil _ _) hP1.src (Nat.le_refl _) (by simp; omega)
  rw [List.nil_append] at hO2
  have hK2 : Kp none' w1.drew w2 := Kp.ofGrown hg2 (fun k hk _ => by cases hk)
  have d1' := (hy.kept hK2 (fun h => h)).c1
  obtain ⟨v4, w4, hq4, hO4, hg4, hv4⟩ := appP w2 w1.drew.heap.size v2 _ ps ps' hO2 (hP1'.keptN hK2).src hK2.size (by omega)
  have hK4 : Kp none' w1.drew w4 := hK2.trans (Kp.ofGrown hg4 (S := fun k => v2.ownBlock = some k) (fun k hk _ => hk)) (fun _ _ h => h) (fun k hk he => absurd hk (by have := (hO2.lt k he).1; omega))
  have hr4 := hr1.kept hK4 (fun h => h)
  have Hlt : Hid (w.heap.size + 1 + 1 < w1.drew.heap.size) := hr1.lt
  have HO4 := hide hO4
  obtain ⟨a4, c4, e4, _⟩ := hO4.prs
  obtain ⟨n4, Hn4⟩ : ∃ m, Hid ((ps ++ ps').length = m) := ⟨_, rfl⟩
  rw [Hn4.out] at e4
  subst e4
  have HPT := hide (hr4.put true (.slice a4 n4 c4) (.slice none 0 0) (.slice none 0 0))
  have hd0 := hr4.c0
  have hd1 := hr4.c1
  have hd2 := hr4.c2
  have hd3 := hr4.c3
  have hf0 := hr4.fz 0
  have hf1 := hr4.fz 1
  have hf2 := hr4.fz 2
  have hf3 := hr4.fz 3
  clear hP1 hP1' hO2 hO4 hg2 hg4 hv2 hv4 hr0 hx0 hy0 hx1 hy1
  go_region_law (first
    | (refine nstep_app_at (by rfl) (.const (.slice none 0 0)) (.tmp 10) 22 22 (by rfl) _ _ (by rfl) (by rfl) hq2 ?_)
    | (refine nstep_app_at (by rfl) (.tmp 11) (.tmp 13) 22 22 (by rfl) _ _ (by rfl) (by rfl) hq4 ?_)
    | fail)
  all_goals (
    go_wp2
    refine bodyPost_ret (results_nb1 rfl _ (w.heap.size + 1 + 1) _ rfl HPT.out.1) rfl ?_
    refine ⟨_, rfl, ?_, ?_⟩
    · exact Nv.own (HO4.out.kept HPT.out.2 (fun z hz hzo => by have := (HO4.out.lt z hz).1; have := Hlt.out; unfold only at hzo; omega)).prs HWL.out
    · exact (hKa.thenN hK4).trans HPT.out.2 (fun _ _ h => h) (fun z hz hzo => by unfold only at hzo; omega))

end Go.Proofs.Ytjmkfkmdafjgnaa
