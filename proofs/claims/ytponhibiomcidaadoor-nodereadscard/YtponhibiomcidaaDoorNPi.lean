/- Contracts, over the turned program: a leaf with a pair more, a pair less. Conditions: those that each theorem states. -/
import Derived.Test.YtponhibiomcidaaDoorNPf
import Derived.Test.YtponhibiomcidaaDoorNPg
import Derived.Test.YtponhibiomcidaaDoorNRefP
namespace Go.Proofs.YtponhibiomcidaaDoor
open Go Go.RowKit
set_option linter.unusedVariables false

/-- Parts that are handed on in a row of their own. -/
theorem parts_new (w : World) (vs : List Value) (e : TypeId) (g m : Nat) (hg : w.heap.size = g) (hm : vs.length = m) (hc : m ≤ 100) : Sl (fun x : Value => x) (g + 1) (w.alloc (.cells vs.toArray e)) (.slice (some ⟨g, 0, none⟩) m m) vs := by
  subst hg hm
  refine ⟨_, _, rfl, Nat.le_refl _, by unfold maxLen; omega, fun i hi => ⟨w.heap.size, 0, rfl, by omega, ?_⟩⟩
  have h := heap_alloc_new w (.cells vs.toArray e)
  rw [cell_of_row _ w.heap.size (0 + i) _ e (0, 0) h]
  simp [hi]

set_option maxRecDepth 100000 in
set_option maxHeartbeats 1000000 in
theorem leaf_any (v : Value) (vs : List Value) (ls : List (List Pr)) (B B' : Nat) (w : World) (hV : Sl (fun x : Value => x) B w v vs) (hL : vs.length = ls.length) (hI : ∀ i (h : i < vs.length) (h' : i < ls.length), Prs B' w vs[i] ls[i]) (hT : ls.flatten.length ≤ 100000000) :
    Calls Tryd.prog 22 #[v] w fun e w' => ∃ a c, e = .returned (.agg #[.bool true, .slice a ls.flatten.length c, .slice none 0 0, .slice none 0 0]) ∧ OwP w' w.heap.size (.slice a ls.flatten.length c) ls.flatten ∧ Kp none' w w' := by
  have hK0 : Kp none' w (w.alloc (.cells #[.bool false, .slice none 0 0, .slice none 0 0, .slice none 0 0] 27)) := Kp.alloc _ _ _
  have hr0 := Nb.new w false (.slice none 0 0) (.slice none 0 0) (.slice none 0 0)
  have HC : Hid (∀ W : World, Kp none' w W → Calls Tryd.prog 53 #[v] W fun e w' => ∃ a c, e = .returned (.slice a ls.flatten.length c) ∧ OwP w' W.heap.size (.slice a ls.flatten.length c) ls.flatten ∧ Kp none' W w') := by
    intro W hk
    refine (concatP v vs ls B B' W (hV.keptN hk) hL (fun i h h' => (hI i h h').keptN hk) hT).mono ?_
    rintro e w' ⟨v', rfl, hO, hK⟩
    obtain ⟨a, c, rfl, _⟩ := hO.prs
    exact ⟨a, c, rfl, hO, hK⟩
  clear hV hI hL
  obtain ⟨L, HL⟩ : ∃ L, Hid (ls.flatten = L) := ⟨ls.flatten, hide rfl⟩
  rw [HL.out] at HC ⊢
  obtain ⟨m, Hm⟩ : ∃ m, Hid (L.length = m) := ⟨L.length, hide rfl⟩
  rw [Hm.out] at HC ⊢
  have HLT : Hid (w.heap.size < (w.alloc (.cells #[.bool false, .slice none 0 0, .slice none 0 0, .slice none 0 0] 27)).heap.size) := hr0.lt
  go_enter Tryd.func22, Tryd.ntmps22
  go_upto_region 1 with fail
  generalize w.alloc (.cells #[.bool false, .slice none 0 0, .slice none 0 0, .slice none 0 0] 27) = w0 at *
  have hfr : ∀ (W : World), Kp none' w0 W → Nb W w.heap.size false (.slice none 0 0) (.slice none 0 0) (.slice none 0 0) := fun W hk => hr0.kept hk (fun h => h)
  have HFR := hide hfr
  clear hfr
  go_wp2_with (first
    | (go_at_call 53; refine (HC.out _ hK0).mono ?_; rintro e w1 ⟨a, c, rfl, hO1, hK1⟩; have hr1 := HFR.out w1 hK1; have HPT := hide (hr1.put true (.slice a m c) (.slice none 0 0) (.slice none 0 0)); have hd0 := hr1.c0; have hd1 := hr1.c1; have hd2 := hr1.c2; have hd3 := hr1.c3; have hf0 := hr1.fz 0; have hf1 := hr1.fz 1; have hf2 := hr1.fz 2; have hf3 := hr1.fz 3)
    | fail)
  refine bodyPost_ret (results_nb1 rfl _ w.heap.size _ rfl HPT.out.1) rfl ?_
  have hOn : ∀ k, (Value.slice a m c).ownBlock = some k → ¬ only w.heap.size k := fun k hk h => by
    have := (hO1.lt k hk).1
    have := HLT.out
    unfold only at h
    omega
  refine ⟨a, c, rfl, (hO1.kept HPT.out.2 hOn).mono (by have := HLT.out; omega), (hK0.thenN hK1).trans HPT.out.2 (fun _ _ h => h) (fun z hz hzo => by unfold only at hzo; omega)⟩

set_option maxRecDepth 100000 in
set_option maxHeartbeats 2000000 in
theorem around_any (x : Value) (n : Nd) (B : Nat) (k : ByteArray) (w : World) (hN : Nv B w x n) :
    Calls Tryd.prog 21 #[x, .string k] w fun e w' => ∃ v1 v2, e = .returned (.tuple #[v1, v2]) ∧ Prs B w' v1 (n.ps.take (findN n.ps k)) ∧ Prs B w' v2 (n.ps.drop (behind n.ps k)) ∧ Kp none' w w' := by
  have hN' := hN
  obtain ⟨⟨pv, kv, dv, rfl, hP, hS, hD⟩, hwf⟩ := hN'
  obtain ⟨a2, c2, rfl, _⟩ := hS
  obtain ⟨a3, c3, rfl, _⟩ := hD
  have hP0 := hP
  obtain ⟨a, c, rfl, hlc, hcm, _⟩ := hP0
  unfold maxLen at hcm
  have hfl := findN_le n.ps k
  have hbl := behind_le n.ps k
  have hb0 := Nb.new w n.leaf (.slice a n.ps.length c) (.slice a2 n.ks.length c2) (.slice a3 n.kd.length c3)
  have hK0 : Kp none' w (w.alloc (.cells #[.bool n.leaf, .slice a n.ps.length c, .slice a2 n.ks.length c2, .slice a3 n.kd.length c3] 27)) := Kp.alloc _ _ _
  have HF : Hid (∀ W : World, Kp none' w W → Calls Tryd.prog 52 #[.agg #[.bool n.leaf, .slice a n.ps.length c, .slice a2 n.ks.length c2, .slice a3 n.kd.length c3], .string k] W fun e w' => e = .returned (.tuple #[.int .i64 (findN n.ps k), .bool (hasN n.ps k)]) ∧ Kp none' W w') := fun W hk => find_any _ n B k W (hN.keptN hk)
  have d0 := hb0.c0
  have d1 := hb0.c1
  have d2 := hb0.c2
  have d3 := hb0.c3
  obtain ⟨i, Hi⟩ : ∃ i, Hid (findN n.ps k = i) := ⟨_, rfl⟩
  have HBH : Hid (behind n.ps k = if hasN n.ps k then i + 1 else i) := by show _ = _; unfold behind; rw [Hi.out]
  rw [Hi.out] at hfl HF
  have hil : (i : Int) ≤ (n.ps.length : Int) := by omega
  have hic : i ≤ c := by omega
  have hic' : (i : Int) ≤ (c : Int) := by omega
  clear hN
  cases ht : hasN n.ps k with
  | true =>
    rw [ht] at HBH HF
    have hb1 : i + 1 ≤ n.ps.length := by rw [HBH.out] at hbl; simpa using hbl
    clear hbl
    obtain ⟨i1, Hi1⟩ : ∃ i1, Hid (i + 1 = i1) := ⟨_, rfl⟩
    have hi1 : IntKind.i64.wrap ((i : Int) + 1) = (i1 : Int) := by rw [← Hi1.out, IntKind.wrap_i64]; omega
    have hi1l : (i1 : Int) ≤ (n.ps.length : Int) := by have := Hi1.out; omega
    have hi1n : i1 ≤ n.ps.length := by have := Hi1.out; omega
    have hi1c : i1 ≤ c := by omega
    have HBE : Hid (behind n.ps k = i1) := by show _ = _; rw [HBH.out, ← Hi1.out]; rfl
    clear HBH hb1
    by_cases hci : c = i1
    · subst hci
      go_enter Tryd.func21, Tryd.ntmps21
      go_upto_region 3 with (first
        | (go_at_call 52; refine (HF.out _ hK0).mono ?_; rintro e w1 ⟨rfl, hK1⟩)
        | fail)
      have hb1 := hb0.kept hK1 (fun h => h)
      have e1 := hb1.c1
      clear d0 d1 d2 d3
      go_quiet (fail)
      go_wp2
      go_ret2
      rw [Hi.out, HBE.out]
      have hPe : ∀ W : World, Kp none' w1 W → Prs B W (.slice a n.ps.length c) n.ps := fun W hk => hP.keptN (hK0.thenN (hK1.thenN hk))
      exact ⟨_, _, rfl, (hPe _ (Kp.drewN _ _ _)).take i hfl, (hPe _ (Kp.drewN _ _ _)).drop0 c hi1n rfl, hK0.thenN (hK1.thenN (Kp.drewN _ _ _))⟩
    · have hci' : ¬ i1 = c := fun h => hci h.symm
      go_enter Tryd.func21, Tryd.ntmps21
      go_upto_region 3 with (first
        | (go_at_call 52; refine (HF.out _ hK0).mono ?_; rintro e w1 ⟨rfl, hK1⟩)
        | fail)
      have hb1 := hb0.kept hK1 (fun h => h)
      have e1 := hb1.c1
      clear d0 d1 d2 d3
      go_quiet (fail)
      go_wp2
      go_ret2
      rw [Hi.out, HBE.out]
      have hPe : ∀ W : World, Kp none' w1 W → Prs B W (.slice a n.ps.length c) n.ps := fun W hk => hP.keptN (hK0.thenN (hK1.thenN hk))
      exact ⟨_, _, rfl, (hPe _ (Kp.drewN _ _ _)).take i hfl, (hPe _ (Kp.drewN _ _ _)).dropM i1 hi1n, hK0.thenN (hK1.thenN (Kp.drewN _ _ _))⟩
  | false =>
    rw [ht] at HBH HF
    clear hbl
    have HBE : Hid (behind n.ps k = i) := by show _ = _; rw [HBH.out]; rfl
    clear HBH
    by_cases hci : c = i
    · subst hci
      go_enter Tryd.func21, Tryd.ntmps21
      go_upto_region 4 with (first
        | (go_at_call 52; refine (HF.out _ hK0).mono ?_; rintro e w1 ⟨rfl, hK1⟩)
        | fail)
      have hb1 := hb0.kept hK1 (fun h => h)
      have e1 := hb1.c1
      clear d0 d1 d2 d3
      go_quiet (fail)
      go_wp2
      go_ret2
      rw [Hi.out, HBE.out]
      have hPe : ∀ W : World, Kp none' w1 W → Prs B W (.slice a n.ps.length c) n.ps := fun W hk => hP.keptN (hK0.thenN (hK1.thenN hk))
      exact ⟨_, _, rfl, (hPe _ (Kp.drewN _ _ _)).take c hfl, (hPe _ (Kp.drewN _ _ _)).drop0 c hfl rfl, hK0.thenN (hK1.thenN (Kp.drewN _ _ _))⟩
    · have hci' : ¬ i = c := fun h => hci h.symm
      go_enter Tryd.func21, Tryd.ntmps21
      go_upto_region 4 with (first
        | (go_at_call 52; refine (HF.out _ hK0).mono ?_; rintro e w1 ⟨rfl, hK1⟩)
        | fail)
      have hb1 := hb0.kept hK1 (fun h => h)
      have e1 := hb1.c1
      clear d0 d1 d2 d3
      go_quiet (fail)
      go_wp2
      go_ret2
      rw [Hi.out, HBE.out]
      have hPe : ∀ W : World, Kp none' w1 W → Prs B W (.slice a n.ps.length c) n.ps := fun W hk => hP.keptN (hK0.thenN (hK1.thenN hk))
      exact ⟨_, _, rfl, (hPe _ (Kp.drewN _ _ _)).take i hfl, (hPe _ (Kp.drewN _ _ _)).dropM i hfl, hK0.thenN (hK1.thenN (Kp.drewN _ _ _))⟩

end Go.Proofs.YtponhibiomcidaaDoor
