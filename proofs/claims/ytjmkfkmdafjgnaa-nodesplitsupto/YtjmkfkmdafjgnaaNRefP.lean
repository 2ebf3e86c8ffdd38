/- Contracts, over the turned program: what the document's Put and Cut answer. Conditions: those that each theorem states. -/
import Derived.Test.YtjmkfkmdafjgnaaNRef
import Derived.Test.YtjmkfkmdafjgnaaNApp
import Derived.Test.YtjmkfkmdafjgnaaNRes
namespace Go.Proofs.Ytjmkfkmdafjgnaa
open Go Go.RowKit
set_option linter.unusedVariables false

theorem src_two' {P : Program} (w : World) (t e : TypeId) (ht : P.underlying t = some (.slice e)) (x y : Value) (hx : x.oneCell' = true) (hy : y.oneCell' = true) (g : Nat) (hg : w.heap.size = g) : Src P 2 t (.slice (some ⟨g, 0, none⟩) 1 1) 1 [x, y] (w.alloc (.cells #[x, y] e)) := by
  subst hg
  refine Src.ofSlice (e' := e) _ ht ⟨w.heap.size, 0, none⟩ 1 1 [x, y] (by simp) ?_ (by intro u hu; simp at hu; rcases hu with rfl | rfl <;> assumption)
  intro j u hj
  match j, hj with
  | 0, hj => simp at hj; subst hj; simp [Addr.add]
  | 1, hj => simp at hj; subst hj; simp [Addr.add]
  | (j + 2), hj => simp at hj

theorem Prs.dropM {B : Nat} {w : World} {a : Option Addr} {c : Nat} {l : List Pr} (h : Prs B w (.slice a l.length c) l) (m : Nat) (hm : m ≤ l.length) : Prs B w (.slice (a.map (fun x => x.add (m * 2))) (l.length - m) (c - m)) (l.drop m) :=
  h.drop m hm (fun b off _ e => by rw [e]; simp [addr_plainN])
theorem Prs.drop0 {B : Nat} {w : World} {a : Option Addr} {c : Nat} {l : List Pr} (h : Prs B w (.slice a l.length c) l) (m : Nat) (hm : m ≤ l.length) (hc : c = m) : Prs B w (.slice a 0 0) (l.drop m) := by
  have hl : l.length ≤ c := by obtain ⟨_, _, e, h1, _⟩ := h; cases e; exact h1
  have := h.drop (a' := a) m hm (fun b off hlt e => absurd hlt (by omega))
  rwa [show c - m = 0 by omega, show l.length - m = 0 by omega] at this
theorem Nv.own {w : World} {v : Value} {l : List Pr} (h : Prs w.heap.size w v l) (hw : ∀ p ∈ l, p.k.size ≤ maxLen ∧ p.v.size ≤ maxLen) : Nv w.heap.size w (.agg #[.bool true, v, .slice none 0 0, .slice none 0 0]) ⟨true, l, [], []⟩ :=
  ⟨⟨v, _, _, rfl, h, Sl.nil _ _ _, Sl.nil _ _ _⟩, ⟨hw, by simp, by simp⟩⟩

set_option maxRecDepth 100000 in
set_option maxHeartbeats 4000000 in
theorem rput9_any (x : Value) (n : Nd) (B : Nat) (k v : ByteArray) (w : World) (hN : Nv B w x n) (hB : B ≤ w.heap.size) (hk : k.size ≤ maxLen) (hv : v.size ≤ maxLen) (hp : n.ps.length ≤ 1048576) :
    Calls Try.prog 19 #[x, .string k, .string v] w fun e w' => ∃ y, e = .returned y ∧ Nv w'.heap.size w' y (n.put k v) ∧ Kp none' w w' := by
  have hN' := hN
  obtain ⟨⟨pv, kv, dv, rfl, hP, hS, hD⟩, hwf⟩ := hN'
  obtain ⟨a, c, rfl, hlc, hcm, ha⟩ := hP
  have hP : Prs B w (.slice a n.ps.length c) n.ps := ⟨a, c, rfl, hlc, hcm, ha⟩
  clear ha
  unfold maxLen at hcm
  have hK0 : Kp none' w ((w.alloc (.cells #[.bool n.leaf, .slice a n.ps.length c, kv, dv] 26)).alloc (.cells #[.bool false, .slice none 0 0, .slice none 0 0, .slice none 0 0] 26)) := (Kp.alloc _ _ _).thenN (Kp.alloc _ _ _)
  have hN0 := hN.keptN hK0
  have hb0 := (Nb.new w n.leaf (.slice a n.ps.length c) kv dv).kept (Kp.alloc none' _ (.cells #[.bool false, .slice none 0 0, .slice none 0 0, .slice none 0 0] 26)) (fun h => h)
  have hr0 := Nb.new (w.alloc (.cells #[.bool n.leaf, .slice a n.ps.length c, kv, dv] 26)) false (.slice none 0 0) (.slice none 0 0) (.slice none 0 0)
  rw [show (w.alloc (.cells #[.bool n.leaf, .slice a n.ps.length c, kv, dv] 26)).heap.size = w.heap.size + 1 by simp] at hr0
  have hfl := findN_le n.ps k
  have hbl := behind_le n.ps k
  obtain ⟨i, Hi⟩ : ∃ i, Hid (findN n.ps k = i) := ⟨_, rfl⟩
  obtain ⟨j, Hj⟩ : ∃ j, Hid (behind n.ps k = j) := ⟨_, rfl⟩
  rw [Hi.out] at hfl
  rw [Hj.out] at hbl
  have HPUT : Hid (n.put k v = ⟨true, n.ps.take i ++ [⟨k, v⟩] ++ n.ps.drop j, [], []⟩) := by show _ = _; unfold Nd.put; rw [Hi.out, Hj.out]
  have hil : (i : Int) ≤ (n.ps.length : Int) := by omega
  have hjl : (j : Int) ≤ (n.ps.length : Int) := by omega
  have hic : (i : Int) ≤ (c : Int) := by omega
  have hjc : (j : Int) ≤ (c : Int) := by omega
  have hlc' : (n.ps.length : Int) ≤ (c : Int) := by omega
  have HWL : Hid (∀ p ∈ n.ps.take i ++ [⟨k, v⟩] ++ n.ps.drop j, p.k.size ≤ maxLen ∧ p.v.size ≤ maxLen) := by
    intro p hp
    rcases List.mem_append.1 hp with hp | hp
    · rcases List.mem_append.1 hp with hp | hp
      · exact hwf.p p (List.mem_of_mem_take hp)
      · rw [List.mem_singleton.1 hp]; exact ⟨hk, hv⟩
    · exact hwf.p p (List.mem_of_mem_drop hp)
  cases ht : hasN n.ps k with
  | false =>
    obtain rfl : j = i := by rw [← Hi.out, ← Hj.out]; simp [behind, ht]
    by_cases hcj : c = j
    · subst hcj
      go_enter Try.func19, Try.ntmps19
      go_upto_region 5 with (first
        | (go_at_call 13; refine (rfind_any _ n B k _ hN0 hk).mono ?_; rintro e w1 ⟨rfl, hK1⟩; rw [Hi.out, ht])
        | fail)
      have hKa := hK0.thenN hK1
      have hb1 := hb0.kept hK1 (fun h => h)
      have hr1 := hr0.kept hK1 (fun h => h)
      have c1 := hb1.c1
      have hP1 := hP.keptN hKa
      obtain ⟨v2, w2, hq2, hO2, hg2, hv2⟩ := appP w1 w1.heap.size (.slice none 0 0) (.slice a c c) [] (n.ps.take c) (OwP.nil _ _) (hP1.take c hfl).src (Nat.le_refl _) (by simp; omega)
      rw [List.nil_append] at hO2
      have hK2 : Kp none' w1 w2 := Kp.ofGrown hg2 (fun k hk _ => by cases hk)
      have hKA : Kp none' w2 (w2.alloc (.cells #[.string k, .string v] 41)) := Kp.alloc _ _ _
      obtain ⟨v3, w3, hq3, hO3, hg3, hv3⟩ := appP (w2.alloc (.cells #[.string k, .string v] 41)) w1.heap.size v2 (.slice (some ⟨w2.heap.size, 0, none⟩) 1 1) (n.ps.take c) [⟨k, v⟩] (hO2.keptN hKA) (src_two' w2 22 41 Try.underlying22 _ _ rfl rfl _ rfl) (Nat.le_trans hK2.size hKA.size) (by simp; omega)
      have hK3 : Kp none' w1 w3 := (hK2.thenN hKA).trans (Kp.ofGrown hg3 (S := fun k => v2.ownBlock = some k) (fun k hk _ => hk)) (fun _ _ h => h) (fun k hk he => absurd hk (by have := (hO2.lt k he).1; omega))
      have c1' := (hb1.kept hK3 (fun h => h)).c1
      obtain ⟨v4, w4, hq4, hO4, hg4, hv4⟩ := appP w3 w1.heap.size v3 _ (n.ps.take c ++ [⟨k, v⟩]) (n.ps.drop c) hO3 ((hP1.keptN hK3).drop0 c hbl rfl).src hK3.size (by simp; omega)
      have hK4 : Kp none' w1 w4 := hK3.trans (Kp.ofGrown hg4 (S := fun k => v3.ownBlock = some k) (fun k hk _ => hk)) (fun _ _ h => h) (fun k hk he => absurd hk (by have := (hO3.lt k he).1; omega))
      have hr4 := hr1.kept hK4 (fun h => h)
      have Hlt : Hid (w.heap.size + 1 < w1.heap.size) := hr1.lt
      have HO4 := hide hO4
      obtain ⟨a4, c4, e4, _⟩ := hO4.prs
      obtain ⟨n4, Hn4⟩ : ∃ m, Hid ((n.ps.take c ++ [(⟨k, v⟩ : Pr)] ++ n.ps.drop c).length = m) := ⟨_, rfl⟩
      rw [Hn4.out] at e4
      subst e4
      have hpt := hr4.put true (.slice a4 n4 c4) (.slice none 0 0) (.slice none 0 0)
      have HPT := hide hpt
      clear hpt
      have hd0 := hr4.c0
      have hd1 := hr4.c1
      have hd2 := hr4.c2
      have hd3 := hr4.c3
      have hf0 := hr4.fz 0
      have hf1 := hr4.fz 1
      have hf2 := hr4.fz 2
      have hf3 := hr4.fz 3
      clear hN hN0 hP hP1 hS hD hO2 hO3 hO4 hg2 hg3 hg4 hv2 hv3 hv4 hr0 hb0
      go_upto_region 6 with (first
        | (at_builtin; refine nwpList_app_at rfl (.const (.slice none 0 0)) (.tmp 24) 22 22 rfl _ _ rfl rfl hq2 ?_)
        | (at_builtin; refine nwpList_app_at rfl (.tmp 25) (.tmp 29) 22 22 rfl _ _ rfl rfl hq3 ?_)
        | fail)
      go_wp2_with (at_builtin; refine nwpList_app_at rfl (.tmp 31) (.tmp 35) 22 22 rfl _ _ rfl rfl hq4 ?_)
      refine bodyPost_ret (results_nb1 rfl _ (w.heap.size + 1) _ rfl HPT.out.1) rfl ?_
      rw [HPUT.out]
      refine ⟨_, rfl, ?_, ?_⟩
      · exact Nv.own (HO4.out.kept HPT.out.2 (fun z hz hzo => by have := (HO4.out.lt z hz).1; have := Hlt.out; unfold only at hzo; omega)).prs HWL.out
      · exact (hKa.thenN hK4).trans HPT.out.2 (fun _ _ h => h) (fun z hz hzo => by unfold only at hzo; omega)
    · go_enter Try.func19, Try.ntmps19
      go_upto_region 5 with (first
        | (go_at_call 13; refine (rfind_any _ n B k _ hN0 hk).mono ?_; rintro e w1 ⟨rfl, hK1⟩; rw [Hi.out, ht])
        | fail)
      have hKa := hK0.thenN hK1
      have hb1 := hb0.kept hK1 (fun h => h)
      have hr1 := hr0.kept hK1 (fun h => h)
      have c1 := hb1.c1
      have hP1 := hP.keptN hKa
      obtain ⟨v2, w2, hq2, hO2, hg2, hv2⟩ := appP w1 w1.heap.size (.slice none 0 0) (.slice a j c) [] (n.ps.take j) (OwP.nil _ _) (hP1.take j hfl).src (Nat.le_refl _) (by simp; omega)
      rw [List.nil_append] at hO2
      have hK2 : Kp none' w1 w2 := Kp.ofGrown hg2 (fun k hk _ => by cases hk)
      have hKA : Kp none' w2 (w2.alloc (.cells #[.string k, .string v] 41)) := Kp.alloc _ _ _
      obtain ⟨v3, w3, hq3, hO3, hg3, hv3⟩ := appP (w2.alloc (.cells #[.string k, .string v] 41)) w1.heap.size v2 (.slice (some ⟨w2.heap.size, 0, none⟩) 1 1) (n.ps.take j) [⟨k, v⟩] (hO2.keptN hKA) (src_two' w2 22 41 Try.underlying22 _ _ rfl rfl _ rfl) (Nat.le_trans hK2.size hKA.size) (by simp; omega)
      have hK3 : Kp none' w1 w3 := (hK2.thenN hKA).trans (Kp.ofGrown hg3 (S := fun k => v2.ownBlock = some k) (fun k hk _ => hk)) (fun _ _ h => h) (fun k hk he => absurd hk (by have := (hO2.lt k he).1; omega))
      have c1' := (hb1.kept hK3 (fun h => h)).c1
      obtain ⟨v4, w4, hq4, hO4, hg4, hv4⟩ := appP w3 w1.heap.size v3 _ (n.ps.take j ++ [⟨k, v⟩]) (n.ps.drop j) hO3 ((hP1.keptN hK3).dropM j hbl).src hK3.size (by simp; omega)
      have hK4 : Kp none' w1 w4 := hK3.trans (Kp.ofGrown hg4 (S := fun k => v3.ownBlock = some k) (fun k hk _ => hk)) (fun _ _ h => h) (fun k hk he => absurd hk (by have := (hO3.lt k he).1; omega))
      have hr4 := hr1.kept hK4 (fun h => h)
      have Hlt : Hid (w.heap.size + 1 < w1.heap.size) := hr1.lt
      have HO4 := hide hO4
      obtain ⟨a4, c4, e4, _⟩ := hO4.prs
      obtain ⟨n4, Hn4⟩ : ∃ m, Hid ((n.ps.take j ++ [(⟨k, v⟩ : Pr)] ++ n.ps.drop j).length = m) := ⟨_, rfl⟩
      rw [Hn4.out] at e4
      subst e4
      have hpt := hr4.put true (.slice a4 n4 c4) (.slice none 0 0) (.slice none 0 0)
      have HPT := hide hpt
      clear hpt
      have hd0 := hr4.c0
      have hd1 := hr4.c1
      have hd2 := hr4.c2
      have hd3 := hr4.c3
      have hf0 := hr4.fz 0
      have hf1 := hr4.fz 1
      have hf2 := hr4.fz 2
      have hf3 := hr4.fz 3
      clear hN hN0 hP hP1 hS hD hO2 hO3 hO4 hg2 hg3 hg4 hv2 hv3 hv4 hr0 hb0
      go_upto_region 6 with (first
        | (at_builtin; refine nwpList_app_at rfl (.const (.slice none 0 0)) (.tmp 24) 22 22 rfl _ _ rfl rfl hq2 ?_)
        | (at_builtin; refine nwpList_app_at rfl (.tmp 25) (.tmp 29) 22 22 rfl _ _ rfl rfl hq3 ?_)
        | fail)
      go_wp2_with (at_builtin; refine nwpList_app_at rfl (.tmp 31) (.tmp 35) 22 22 rfl _ _ rfl rfl hq4 ?_)
      refine bodyPost_ret (results_nb1 rfl _ (w.heap.size + 1) _ rfl HPT.out.1) rfl ?_
      rw [HPUT.out]
      refine ⟨_, rfl, ?_, ?_⟩
      · exact Nv.own (HO4.out.kept HPT.out.2 (fun z hz hzo => by have := (HO4.out.lt z hz).1; have := Hlt.out; unfold only at hzo; omega)).prs HWL.out
      · exact (hKa.thenN hK4).trans HPT.out.2 (fun _ _ h => h) (fun z hz hzo => by unfold only at hzo; omega)
  | true =>
    obtain rfl : j = i + 1 := by rw [← Hi.out, ← Hj.out]; simp [behind, ht]
    by_cases hcj : c = i + 1
    · subst hcj
      go_enter Try.func19, Try.ntmps19
      go_upto_region 5 with (first
        | (go_at_call 13; refine (rfind_any _ n B k _ hN0 hk).mono ?_; rintro e w1 ⟨rfl, hK1⟩; rw [Hi.out, ht])
        | fail)
      have hKa := hK0.thenN hK1
      have hb1 := hb0.kept hK1 (fun h => h)
      have hr1 := hr0.kept hK1 (fun h => h)
      have c1 := hb1.c1
      have hP1 := hP.keptN hKa
      obtain ⟨v2, w2, hq2, hO2, hg2, hv2⟩ := appP w1 w1.heap.size (.slice none 0 0) (.slice a i (i + 1)) [] (n.ps.take i) (OwP.nil _ _) (hP1.take i hfl).src (Nat.le_refl _) (by simp; omega)
      rw [List.nil_append] at hO2
      have hK2 : Kp none' w1 w2 := Kp.ofGrown hg2 (fun k hk _ => by cases hk)
      have hKA : Kp none' w2 (w2.alloc (.cells #[.string k, .string v] 41)) := Kp.alloc _ _ _
      obtain ⟨v3, w3, hq3, hO3, hg3, hv3⟩ := appP (w2.alloc (.cells #[.string k, .string v] 41)) w1.heap.size v2 (.slice (some ⟨w2.heap.size, 0, none⟩) 1 1) (n.ps.take i) [⟨k, v⟩] (hO2.keptN hKA) (src_two' w2 22 41 Try.underlying22 _ _ rfl rfl _ rfl) (Nat.le_trans hK2.size hKA.size) (by simp; omega)
      have hK3 : Kp none' w1 w3 := (hK2.thenN hKA).trans (Kp.ofGrown hg3 (S := fun k => v2.ownBlock = some k) (fun k hk _ => hk)) (fun _ _ h => h) (fun k hk he => absurd hk (by have := (hO2.lt k he).1; omega))
      have c1' := (hb1.kept hK3 (fun h => h)).c1
      obtain ⟨v4, w4, hq4, hO4, hg4, hv4⟩ := appP w3 w1.heap.size v3 _ (n.ps.take i ++ [⟨k, v⟩]) (n.ps.drop (i + 1)) hO3 ((hP1.keptN hK3).drop0 (i + 1) hbl rfl).src hK3.size (by simp; omega)
      have hK4 : Kp none' w1 w4 := hK3.trans (Kp.ofGrown hg4 (S := fun k => v3.ownBlock = some k) (fun k hk _ => hk)) (fun _ _ h => h) (fun k hk he => absurd hk (by have := (hO3.lt k he).1; omega))
      have hr4 := hr1.kept hK4 (fun h => h)
      have Hlt : Hid (w.heap.size + 1 < w1.heap.size) := hr1.lt
      have HO4 := hide hO4
      obtain ⟨a4, c4, e4, _⟩ := hO4.prs
      obtain ⟨n4, Hn4⟩ : ∃ m, Hid ((n.ps.take i ++ [(⟨k, v⟩ : Pr)] ++ n.ps.drop (i + 1)).length = m) := ⟨_, rfl⟩
      rw [Hn4.out] at e4
      subst e4
      have hpt := hr4.put true (.slice a4 n4 c4) (.slice none 0 0) (.slice none 0 0)
      have HPT := hide hpt
      clear hpt
      have hd0 := hr4.c0
      have hd1 := hr4.c1
      have hd2 := hr4.c2
      have hd3 := hr4.c3
      have hf0 := hr4.fz 0
      have hf1 := hr4.fz 1
      have hf2 := hr4.fz 2
      have hf3 := hr4.fz 3
      clear hN hN0 hP hP1 hS hD hO2 hO3 hO4 hg2 hg3 hg4 hv2 hv3 hv4 hr0 hb0
      go_upto_region 6 with (first
        | (at_builtin; refine nwpList_app_at rfl (.const (.slice none 0 0)) (.tmp 24) 22 22 rfl _ _ rfl rfl hq2 ?_)
        | (at_builtin; refine nwpList_app_at rfl (.tmp 25) (.tmp 29) 22 22 rfl _ _ rfl rfl hq3 ?_)
        | fail)
      go_wp2_with (at_builtin; refine nwpList_app_at rfl (.tmp 31) (.tmp 35) 22 22 rfl _ _ rfl rfl hq4 ?_)
      refine bodyPost_ret (results_nb1 rfl _ (w.heap.size + 1) _ rfl HPT.out.1) rfl ?_
      rw [HPUT.out]
      refine ⟨_, rfl, ?_, ?_⟩
      · exact Nv.own (HO4.out.kept HPT.out.2 (fun z hz hzo => by have := (HO4.out.lt z hz).1; have := Hlt.out; unfold only at hzo; omega)).prs HWL.out
      · exact (hKa.thenN hK4).trans HPT.out.2 (fun _ _ h => h) (fun z hz hzo => by unfold only at hzo; omega)
    · go_enter Try.func19, Try.ntmps19
      go_upto_region 5 with (first
        | (go_at_call 13; refine (rfind_any _ n B k _ hN0 hk).mono ?_; rintro e w1 ⟨rfl, hK1⟩; rw [Hi.out, ht])
        | fail)
      have hKa := hK0.thenN hK1
      have hb1 := hb0.kept hK1 (fun h => h)
      have hr1 := hr0.kept hK1 (fun h => h)
      have c1 := hb1.c1
      have hP1 := hP.keptN hKa
      obtain ⟨v2, w2, hq2, hO2, hg2, hv2⟩ := appP w1 w1.heap.size (.slice none 0 0) (.slice a i c) [] (n.ps.take i) (OwP.nil _ _) (hP1.take i hfl).src (Nat.le_refl _) (by simp; omega)
      rw [List.nil_append] at hO2
      have hK2 : Kp none' w1 w2 := Kp.ofGrown hg2 (fun k hk _ => by cases hk)
      have hKA : Kp none' w2 (w2.alloc (.cells #[.string k, .string v] 41)) := Kp.alloc _ _ _
      obtain ⟨v3, w3, hq3, hO3, hg3, hv3⟩ := appP (w2.alloc (.cells #[.string k, .string v] 41)) w1.heap.size v2 (.slice (some ⟨w2.heap.size, 0, none⟩) 1 1) (n.ps.take i) [⟨k, v⟩] (hO2.keptN hKA) (src_two' w2 22 41 Try.underlying22 _ _ rfl rfl _ rfl) (Nat.le_trans hK2.size hKA.size) (by simp; omega)
      have hK3 : Kp none' w1 w3 := (hK2.thenN hKA).trans (Kp.ofGrown hg3 (S := fun k => v2.ownBlock = some k) (fun k hk _ => hk)) (fun _ _ h => h) (fun k hk he => absurd hk (by have := (hO2.lt k he).1; omega))
      have c1' := (hb1.kept hK3 (fun h => h)).c1
      obtain ⟨v4, w4, hq4, hO4, hg4, hv4⟩ := appP w3 w1.heap.size v3 _ (n.ps.take i ++ [⟨k, v⟩]) (n.ps.drop (i + 1)) hO3 ((hP1.keptN hK3).dropM (i + 1) hbl).src hK3.size (by simp; omega)
      have hK4 : Kp none' w1 w4 := hK3.trans (Kp.ofGrown hg4 (S := fun k => v3.ownBlock = some k) (fun k hk _ => hk)) (fun _ _ h => h) (fun k hk he => absurd hk (by have := (hO3.lt k he).1; omega))
      have hr4 := hr1.kept hK4 (fun h => h)
      have Hlt : Hid (w.heap.size + 1 < w1.heap.size) := hr1.lt
      have HO4 := hide hO4
      obtain ⟨a4, c4, e4, _⟩ := hO4.prs
      obtain ⟨n4, Hn4⟩ : ∃ m, Hid ((n.ps.take i ++ [(⟨k, v⟩ : Pr)] ++ n.ps.drop (i + 1)).length = m) := ⟨_, rfl⟩
      rw [Hn4.out] at e4
      subst e4
      have hpt := hr4.put true (.slice a4 n4 c4) (.slice none 0 0) (.slice none 0 0)
      have HPT := hide hpt
      clear hpt
      have hd0 := hr4.c0
      have hd1 := hr4.c1
      have hd2 := hr4.c2
      have hd3 := hr4.c3
      have hf0 := hr4.fz 0
      have hf1 := hr4.fz 1
      have hf2 := hr4.fz 2
      have hf3 := hr4.fz 3
      clear hN hN0 hP hP1 hS hD hO2 hO3 hO4 hg2 hg3 hg4 hv2 hv3 hv4 hr0 hb0
      go_upto_region 6 with (first
        | (at_builtin; refine nwpList_app_at rfl (.const (.slice none 0 0)) (.tmp 24) 22 22 rfl _ _ rfl rfl hq2 ?_)
        | (at_builtin; refine nwpList_app_at rfl (.tmp 25) (.tmp 29) 22 22 rfl _ _ rfl rfl hq3 ?_)
        | fail)
      go_wp2_with (at_builtin; refine nwpList_app_at rfl (.tmp 31) (.tmp 35) 22 22 rfl _ _ rfl rfl hq4 ?_)
      refine bodyPost_ret (results_nb1 rfl _ (w.heap.size + 1) _ rfl HPT.out.1) rfl ?_
      rw [HPUT.out]
      refine ⟨_, rfl, ?_, ?_⟩
      · exact Nv.own (HO4.out.kept HPT.out.2 (fun z hz hzo => by have := (HO4.out.lt z hz).1; have := Hlt.out; unfold only at hzo; omega)).prs HWL.out
      · exact (hKa.thenN hK4).trans HPT.out.2 (fun _ _ h => h) (fun z hz hzo => by unfold only at hzo; omega)

end Go.Proofs.Ytjmkfkmdafjgnaa
