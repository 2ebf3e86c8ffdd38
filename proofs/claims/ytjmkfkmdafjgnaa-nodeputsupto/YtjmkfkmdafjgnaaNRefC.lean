/- Contracts, over the turned program: what the document's Cut answers. Conditions: those that each theorem states. -/
import Derived.Test.YtjmkfkmdafjgnaaNRefP
namespace Go.Proofs.Ytjmkfkmdafjgnaa
open Go Go.RowKit
set_option linter.unusedVariables false

set_option maxRecDepth 100000 in
set_option maxHeartbeats 4000000 in
theorem rcut9_any (x : Value) (n : Nd) (B : Nat) (k : ByteArray) (w : World) (hN : Nv B w x n) (hB : B ≤ w.heap.size) (hk : k.size ≤ maxLen) (hp : n.ps.length ≤ 1048576) :
    Calls Try.prog 20 #[x, .string k] w fun e w' => ∃ y, e = .returned y ∧ Nv w'.heap.size w' y (n.cut k) ∧ Kp none' w w' := by
  have hN' := hN
  obtain ⟨⟨pv, kv, dv, rfl, hP, hS, hD⟩, hwf⟩ := hN'
  obtain ⟨a, c, rfl, hlc, hcm, ha⟩ := hP
  have hP : Prs B w (.slice a n.ps.length c) n.ps := ⟨a, c, rfl, hlc, hcm, ha⟩
  clear ha
  unfold maxLen at hcm
  have hK0 : Kp none' w ((w.alloc (.cells #[.bool n.leaf, .slice a n.ps.length c, kv, dv] 26)).alloc (.cells #[.bool false, .slice none 0 0, .slice none 0 0, .slice none 0 0] 26)) := (Kp.alloc _ _ _).thenN (Kp.alloc _ _ _)
  have hN0 := hN.keptN hK0
  have hb0 := (Nb.new w n.leaf (.slice a n.ps.length c) kv dv).kept (Kp.alloc none' _ (.cells #[.bool false, .slice none 0 0, .slice none 0 0, .slice none 0 0] 26)) (fun h => h)
  have hr0 := Nb.new (w.alloc (.cells #[.bool n.leaf, .slice a n.ps.length c, kv, dv] 26)) false (.slice none 0 0) (.slice none 0 0) (.slice none 0 0)
  rw [show (w.alloc (.cells #[.bool n.leaf, .slice a n.ps.length c, kv, dv] 26)).heap.size = w.heap.size + 1 by simp] at hr0
  have hfl := findN_le n.ps k
  have hbl := behind_le n.ps k
  obtain ⟨i, Hi⟩ : ∃ i, Hid (findN n.ps k = i) := ⟨_, rfl⟩
  obtain ⟨j, Hj⟩ : ∃ j, Hid (behind n.ps k = j) := ⟨_, rfl⟩
  rw [Hi.out] at hfl
  rw [Hj.out] at hbl
  have HCUT : Hid (n.cut k = ⟨true, n.ps.take i ++ n.ps.drop j, [], []⟩) := by show _ = _; unfold Nd.cut; rw [Hi.out, Hj.out]
  have hil : (i : Int) ≤ (n.ps.length : Int) := by omega
  have hjl : (j : Int) ≤ (n.ps.length : Int) := by omega
  have hic : (i : Int) ≤ (c : Int) := by omega
  have hjc : (j : Int) ≤ (c : Int) := by omega
  have hlc' : (n.ps.length : Int) ≤ (c : Int) := by omega
  have HWL : Hid (∀ p ∈ n.ps.take i ++ n.ps.drop j, p.k.size ≤ maxLen ∧ p.v.size ≤ maxLen) := by
    intro p hp
    rcases List.mem_append.1 hp with hp | hp
    · exact hwf.p p (List.mem_of_mem_take hp)
    · exact hwf.p p (List.mem_of_mem_drop hp)
  cases ht : hasN n.ps k with
  | false =>
    obtain rfl : j = i := by rw [← Hi.out, ← Hj.out]; simp [behind, ht]
    by_cases hcj : c = j
    · subst hcj
      go_enter Try.func20, Try.ntmps20
      go_upto_region 5 with (first
        | (go_at_call 13; refine (rfind_any _ n B k _ hN0 hk).mono ?_; rintro e w1 ⟨rfl, hK1⟩; rw [Hi.out, ht])
        | fail)
      have hKa := hK0.thenN (hK1.thenN (Kp.drew none' w1))
      have hb1 := hb0.kept (hK1.thenN (Kp.drew none' w1)) (fun h => h)
      have hr1 := hr0.kept (hK1.thenN (Kp.drew none' w1)) (fun h => h)
      have c1 := hb1.c1
      have hP1 := hP.keptN hKa
      obtain ⟨v2, w2, hq2, hO2, hg2, hv2⟩ := appP w1.drew w1.drew.heap.size (.slice none 0 0) (.slice a c c) [] (n.ps.take c) (OwP.nil _ _) (hP1.take c hfl).src (Nat.le_refl _) (by simp; omega)
      rw [List.nil_append] at hO2
      have hK2 : Kp none' w1.drew w2 := Kp.ofGrown hg2 (fun k hk _ => by cases hk)
      have c1' := (hb1.kept hK2 (fun h => h)).c1
      obtain ⟨v4, w4, hq4, hO4, hg4, hv4⟩ := appP w2 w1.drew.heap.size v2 _ (n.ps.take c) (n.ps.drop c) hO2 ((hP1.keptN hK2).drop0 c hbl rfl).src hK2.size (by simp; omega)
      have hK4 : Kp none' w1.drew w4 := hK2.trans (Kp.ofGrown hg4 (S := fun k => v2.ownBlock = some k) (fun k hk _ => hk)) (fun _ _ h => h) (fun k hk he => absurd hk (by have := (hO2.lt k he).1; omega))
      have hr4 := hr1.kept hK4 (fun h => h)
      have c1'' := (hb1.kept hK4 (fun h => h)).c1
      have Hlt : Hid (w.heap.size + 1 < w1.drew.heap.size) := hr1.lt
      have HO4 := hide hO4
      obtain ⟨a4, c4, e4, _⟩ := hO4.prs
      obtain ⟨n4, Hn4⟩ : ∃ m, Hid ((n.ps.take c ++ n.ps.drop c).length = m) := ⟨_, rfl⟩
      rw [Hn4.out] at e4
      subst e4
      have hpt := hr4.put true (.slice a4 n4 c4) (.slice none 0 0) (.slice none 0 0)
      have HPT := hide hpt
      clear hpt
      have hd0 := hr4.c0
      have hd1 := hr4.c1
      have hd2 := hr4.c2
      have hd3 := hr4.c3
      have hf0 := hr4.fz 0
      have hf1 := hr4.fz 1
      have hf2 := hr4.fz 2
      have hf3 := hr4.fz 3
      clear hN hN0 hP hP1 hS hD hO2 hO4 hg2 hg4 hv2 hv4 hr0 hb0
      go_region_law (first
        | (refine nstep_app_at (by rfl) (.const (.slice none 0 0)) (.tmp 21) 22 22 (by rfl) _ _ (by rfl) (by rfl) hq2 ?_)
        | (refine nstep_app_at (by rfl) (.tmp 22) (.tmp 26) 22 22 (by rfl) _ _ (by rfl) (by rfl) hq4 ?_)
        | fail)
      all_goals (
        go_wp2
        refine bodyPost_ret (results_nb1 rfl _ (w.heap.size + 1) _ rfl HPT.out.1) rfl ?_
        rw [HCUT.out]
        refine ⟨_, rfl, ?_, ?_⟩
        · exact Nv.own (HO4.out.kept HPT.out.2 (fun z hz hzo => by have := (HO4.out.lt z hz).1; have := Hlt.out; unfold only at hzo; omega)).prs HWL.out
        · exact (hKa.thenN hK4).trans HPT.out.2 (fun _ _ h => h) (fun z hz hzo => by unfold only at hzo; omega))
    · go_enter Try.func20, Try.ntmps20
      go_upto_region 5 with (first
        | (go_at_call 13; refine (rfind_any _ n B k _ hN0 hk).mono ?_; rintro e w1 ⟨rfl, hK1⟩; rw [Hi.out, ht])
        | fail)
      have hKa := hK0.thenN (hK1.thenN (Kp.drew none' w1))
      have hb1 := hb0.kept (hK1.thenN (Kp.drew none' w1)) (fun h => h)
      have hr1 := hr0.kept (hK1.thenN (Kp.drew none' w1)) (fun h => h)
      have c1 := hb1.c1
      have hP1 := hP.keptN hKa
      obtain ⟨v2, w2, hq2, hO2, hg2, hv2⟩ := appP w1.drew w1.drew.heap.size (.slice none 0 0) (.slice a j c) [] (n.ps.take j) (OwP.nil _ _) (hP1.take j hfl).src (Nat.le_refl _) (by simp; omega)
      rw [List.nil_append] at hO2
      have hK2 : Kp none' w1.drew w2 := Kp.ofGrown hg2 (fun k hk _ => by cases hk)
      have c1' := (hb1.kept hK2 (fun h => h)).c1
      obtain ⟨v4, w4, hq4, hO4, hg4, hv4⟩ := appP w2 w1.drew.heap.size v2 _ (n.ps.take j) (n.ps.drop j) hO2 ((hP1.keptN hK2).dropM j hbl).src hK2.size (by simp; omega)
      have hK4 : Kp none' w1.drew w4 := hK2.trans (Kp.ofGrown hg4 (S := fun k => v2.ownBlock = some k) (fun k hk _ => hk)) (fun _ _ h => h) (fun k hk he => absurd hk (by have := (hO2.lt k he).1; omega))
      have hr4 := hr1.kept hK4 (fun h => h)
      have c1'' := (hb1.kept hK4 (fun h => h)).c1
      have Hlt : Hid (w.heap.size + 1 < w1.drew.heap.size) := hr1.lt
      have HO4 := hide hO4
      obtain ⟨a4, c4, e4, _⟩ := hO4.prs
      obtain ⟨n4, Hn4⟩ : ∃ m, Hid ((n.ps.take j ++ n.ps.drop j).length = m) := ⟨_, rfl⟩
      rw [Hn4.out] at e4
      subst e4
      have hpt := hr4.put true (.slice a4 n4 c4) (.slice none 0 0) (.slice none 0 0)
      have HPT := hide hpt
      clear hpt
      have hd0 := hr4.c0
      have hd1 := hr4.c1
      have hd2 := hr4.c2
      have hd3 := hr4.c3
      have hf0 := hr4.fz 0
      have hf1 := hr4.fz 1
      have hf2 := hr4.fz 2
      have hf3 := hr4.fz 3
      clear hN hN0 hP hP1 hS hD hO2 hO4 hg2 hg4 hv2 hv4 hr0 hb0
      go_region_law (first
        | (refine nstep_app_at (by rfl) (.const (.slice none 0 0)) (.tmp 21) 22 22 (by rfl) _ _ (by rfl) (by rfl) hq2 ?_)
        | (refine nstep_app_at (by rfl) (.tmp 22) (.tmp 26) 22 22 (by rfl) _ _ (by rfl) (by rfl) hq4 ?_)
        | fail)
      all_goals (
        go_wp2
        refine bodyPost_ret (results_nb1 rfl _ (w.heap.size + 1) _ rfl HPT.out.1) rfl ?_
        rw [HCUT.out]
        refine ⟨_, rfl, ?_, ?_⟩
        · exact Nv.own (HO4.out.kept HPT.out.2 (fun z hz hzo => by have := (HO4.out.lt z hz).1; have := Hlt.out; unfold only at hzo; omega)).prs HWL.out
        · exact (hKa.thenN hK4).trans HPT.out.2 (fun _ _ h => h) (fun z hz hzo => by unfold only at hzo; omega))
  | true =>
    obtain rfl : j = i + 1 := by rw [← Hi.out, ← Hj.out]; simp [behind, ht]
    have hI1 : (i : Int) + 1 ≤ (n.ps.length : Int) := by omega
    have hI2 : (i : Int) ≤ (i : Int) + 1 := by omega
    have hI3 : (i : Int) + 1 ≤ (c : Int) := by omega
    have hI4 : ((i : Int) + 1).toNat = i + 1 := by omega
    have hI5 : (0 : Int) ≤ (i : Int) + 1 := by omega
    by_cases hcj : c = i + 1
    · subst hcj
      go_enter Try.func20, Try.ntmps20
      go_upto_region 5 with (first
        | (go_at_call 13; refine (rfind_any _ n B k _ hN0 hk).mono ?_; rintro e w1 ⟨rfl, hK1⟩; rw [Hi.out, ht])
        | fail)
      have hKa := hK0.thenN (hK1.thenN (Kp.drew none' w1))
      have hb1 := hb0.kept (hK1.thenN (Kp.drew none' w1)) (fun h => h)
      have hr1 := hr0.kept (hK1.thenN (Kp.drew none' w1)) (fun h => h)
      have c1 := hb1.c1
      have hP1 := hP.keptN hKa
      obtain ⟨v2, w2, hq2, hO2, hg2, hv2⟩ := appP w1.drew w1.drew.heap.size (.slice none 0 0) (.slice a i (i + 1)) [] (n.ps.take i) (OwP.nil _ _) (hP1.take i hfl).src (Nat.le_refl _) (by simp; omega)
      rw [List.nil_append] at hO2
      have hK2 : Kp none' w1.drew w2 := Kp.ofGrown hg2 (fun k hk _ => by cases hk)
      have c1' := (hb1.kept hK2 (fun h => h)).c1
      obtain ⟨v4, w4, hq4, hO4, hg4, hv4⟩ := appP w2 w1.drew.heap.size v2 _ (n.ps.take i) (n.ps.drop (i + 1)) hO2 ((hP1.keptN hK2).drop0 (i + 1) hbl rfl).src hK2.size (by simp; omega)
      have hK4 : Kp none' w1.drew w4 := hK2.trans (Kp.ofGrown hg4 (S := fun k => v2.ownBlock = some k) (fun k hk _ => hk)) (fun _ _ h => h) (fun k hk he => absurd hk (by have := (hO2.lt k he).1; omega))
      have hr4 := hr1.kept hK4 (fun h => h)
      have c1'' := (hb1.kept hK4 (fun h => h)).c1
      have Hlt : Hid (w.heap.size + 1 < w1.drew.heap.size) := hr1.lt
      have HO4 := hide hO4
      obtain ⟨a4, c4, e4, _⟩ := hO4.prs
      obtain ⟨n4, Hn4⟩ : ∃ m, Hid ((n.ps.take i ++ n.ps.drop (i + 1)).length = m) := ⟨_, rfl⟩
      rw [Hn4.out] at e4
      subst e4
      have hpt := hr4.put true (.slice a4 n4 c4) (.slice none 0 0) (.slice none 0 0)
      have HPT := hide hpt
      clear hpt
      have hd0 := hr4.c0
      have hd1 := hr4.c1
      have hd2 := hr4.c2
      have hd3 := hr4.c3
      have hf0 := hr4.fz 0
      have hf1 := hr4.fz 1
      have hf2 := hr4.fz 2
      have hf3 := hr4.fz 3
      clear hN hN0 hP hP1 hS hD hO2 hO4 hg2 hg4 hv2 hv4 hr0 hb0
      go_region_law (first
        | (refine nstep_app_at (by rfl) (.const (.slice none 0 0)) (.tmp 21) 22 22 (by rfl) _ _ (by rfl) (by rfl) hq2 ?_)
        | (refine nstep_app_at (by rfl) (.tmp 22) (.tmp 26) 22 22 (by rfl) _ _ (by rfl) (by rfl) hq4 ?_)
        | fail)
      all_goals (
        go_wp2
        refine bodyPost_ret (results_nb1 rfl _ (w.heap.size + 1) _ rfl HPT.out.1) rfl ?_
        rw [HCUT.out]
        refine ⟨_, rfl, ?_, ?_⟩
        · exact Nv.own (HO4.out.kept HPT.out.2 (fun z hz hzo => by have := (HO4.out.lt z hz).1; have := Hlt.out; unfold only at hzo; omega)).prs HWL.out
        · exact (hKa.thenN hK4).trans HPT.out.2 (fun _ _ h => h) (fun z hz hzo => by unfold only at hzo; omega))
    · go_enter Try.func20, Try.ntmps20
      go_upto_region 5 with (first
        | (go_at_call 13; refine (rfind_any _ n B k _ hN0 hk).mono ?_; rintro e w1 ⟨rfl, hK1⟩; rw [Hi.out, ht])
        | fail)
      have hKa := hK0.thenN (hK1.thenN (Kp.drew none' w1))
      have hb1 := hb0.kept (hK1.thenN (Kp.drew none' w1)) (fun h => h)
      have hr1 := hr0.kept (hK1.thenN (Kp.drew none' w1)) (fun h => h)
      have c1 := hb1.c1
      have hP1 := hP.keptN hKa
      obtain ⟨v2, w2, hq2, hO2, hg2, hv2⟩ := appP w1.drew w1.drew.heap.size (.slice none 0 0) (.slice a i c) [] (n.ps.take i) (OwP.nil _ _) (hP1.take i hfl).src (Nat.le_refl _) (by simp; omega)
      rw [List.nil_append] at hO2
      have hK2 : Kp none' w1.drew w2 := Kp.ofGrown hg2 (fun k hk _ => by cases hk)
      have c1' := (hb1.kept hK2 (fun h => h)).c1
      obtain ⟨v4, w4, hq4, hO4, hg4, hv4⟩ := appP w2 w1.drew.heap.size v2 _ (n.ps.take i) (n.ps.drop (i + 1)) hO2 ((hP1.keptN hK2).dropM (i + 1) hbl).src hK2.size (by simp; omega)
      have hK4 : Kp none' w1.drew w4 := hK2.trans (Kp.ofGrown hg4 (S := fun k => v2.ownBlock = some k) (fun k hk _ => hk)) (fun _ _ h => h) (fun k hk he => absurd hk (by have := (hO2.lt k he).1; omega))
      have hr4 := hr1.kept hK4 (fun h => h)
      have c1'' := (hb1.kept hK4 (fun h => h)).c1
      have Hlt : Hid (w.heap.size + 1 < w1.drew.heap.size) := hr1.lt
      have HO4 := hide hO4
      obtain ⟨a4, c4, e4, _⟩ := hO4.prs
      obtain ⟨n4, Hn4⟩ : ∃ m, Hid ((n.ps.take i ++ n.ps.drop (i + 1)).length = m) := ⟨_, rfl⟩
      rw [Hn4.out] at e4
      subst e4
      have hpt := hr4.put true (.slice a4 n4 c4) (.slice none 0 0) (.slice none 0 0)
      have HPT := hide hpt
      clear hpt
      have hd0 := hr4.c0
      have hd1 := hr4.c1
      have hd2 := hr4.c2
      have hd3 := hr4.c3
      have hf0 := hr4.fz 0
      have hf1 := hr4.fz 1
      have hf2 := hr4.fz 2
      have hf3 := hr4.fz 3
      clear hN hN0 hP hP1 hS hD hO2 hO4 hg2 hg4 hv2 hv4 hr0 hb0
      go_region_law (first
        | (refine nstep_app_at (by rfl) (.const (.slice none 0 0)) (.tmp 21) 22 22 (by rfl) _ _ (by rfl) (by rfl) hq2 ?_)
        | (refine nstep_app_at (by rfl) (.tmp 22) (.tmp 26) 22 22 (by rfl) _ _ (by rfl) (by rfl) hq4 ?_)
        | fail)
      all_goals (
        go_wp2
        refine bodyPost_ret (results_nb1 rfl _ (w.heap.size + 1) _ rfl HPT.out.1) rfl ?_
        rw [HCUT.out]
        refine ⟨_, rfl, ?_, ?_⟩
        · exact Nv.own (HO4.out.kept HPT.out.2 (fun z hz hzo => by have := (HO4.out.lt z hz).1; have := Hlt.out; unfold only at hzo; omega)).prs HWL.out
        · exact (hKa.thenN hK4).trans HPT.out.2 (fun _ _ h => h) (fun z hz hzo => by unfold only at hzo; omega))

end Go.Proofs.Ytjmkfkmdafjgnaa
