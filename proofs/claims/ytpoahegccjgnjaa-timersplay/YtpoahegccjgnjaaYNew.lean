/- New timers; the two of the laws' head; timers that aren't there. Conditions: those that each theorem states. -/
import Derived.Test.YtpoahegccjgnjaaYDuf
namespace Go.Proofs.Ytpoahegccjgnjaa
open Go Go.RowKit
open Go.ChangeMaps (setBlock)
set_option linter.unusedVariables false
set_option maxRecDepth 100000 in
set_option maxHeartbeats 800000 in
theorem tnew_any (w : World) : Calls Try.prog 9 #[] w fun e w' => ∃ (p : Nat) (F : Nat → Prop), e = .returned (.pointer (some ⟨p, 0, none⟩)) ∧ Tim w' p F [] ∧ (∀ k, F k → w.heap.size ≤ k) ∧ Kp none' w w' := by
  have hmm := @run_makeMap Try.prog
  go_enter Try.func9, Try.ntmps9
  go_wp2
  go_ret
  have h1 := heap_alloc_new w (.map #[] 0)
  have k1 : Kp none' w (w.alloc (.map #[] 0)) := Kp.alloc _ _ _
  have hs1 : (w.alloc (.map #[] 0)).heap.size = w.heap.size + 1 := World.size_alloc _ _
  have h2 := heap_alloc_new (w.alloc (.map #[] 0)) (.cells #[.slice none 0 0, .map (some w.heap.size)] 54)
  have k2 : Kp none' (w.alloc (.map #[] 0)) ((w.alloc (.map #[] 0)).alloc (.cells #[.slice none 0 0, .map (some w.heap.size)] 54)) := Kp.alloc _ _ _
  have hs2 : ((w.alloc (.map #[] 0)).alloc (.cells #[.slice none 0 0, .map (some w.heap.size)] 54)).heap.size = w.heap.size + 1 + 1 := by rw [World.size_alloc, hs1]
  rw [hs1] at h2
  have hm := k2.block w.heap.size (by omega) (fun h => h)
  rw [h1] at hm
  have hF : ∀ k, ¬ Ft (.slice none 0 0) [] k := fun k hk => by
    rcases hk with hk | ⟨i, hi, _⟩
    · cases hk
    · simp at hi
  refine ⟨w.heap.size + 1, fun k => k = w.heap.size + 1 ∨ k = w.heap.size, rfl, ⟨w.heap.size, .slice none 0 0, [], fun _ => none, #[], 0, ⟨⟨?_, ?_, ⟨Ow.nil _ _ _ _, fun i hi => absurd hi (by simp), by simp, fun g hg i hi => absurd hi (by simp), by simp⟩, hF _⟩, fun k k0 hk => absurd hk (by simp), Rep.nil, ?_, hm, Mi.nil 0, fun z u => ⟨fun h => (by cases h), fun ⟨x, hx, _⟩ => absurd hx (by simp)⟩, by omega, hF _, fun k hk => ?_, fun k hk => ?_⟩⟩, fun k hk => by rcases hk with hk | hk <;> omega, k1.then k2⟩
  · rw [cell_of_row _ _ 0 _ _ (0, 0) h2]; rfl
  · unfold World.frozen?
    rw [show ((w.alloc (.map #[] 0)).alloc (.cells #[.slice none 0 0, .map (some w.heap.size)] 54)).heap[(⟨w.heap.size + 1, 0, none⟩ : Addr).block]? = _ from h2]
    simp
  · rw [cell_of_row _ _ 1 _ _ (0, 0) h2]; rfl
  · rcases hk with hk | hk | hk
    · exact .inl hk
    · exact .inr hk
    · exact absurd hk (hF k)
  · rw [hs2]
    rcases hk with hk | hk <;> omega
set_option maxRecDepth 100000 in
theorem tnil_set (id till : Int) (w : World) : Calls Try.prog 11 #[.pointer none, .int .i64 id, .int .i64 till] w fun e w' => e = .returned (.tuple #[]) ∧ w' = w := by
  go_enter Try.func11, Try.ntmps11
  go_wp2
  refine bodyPost_ret (results_none rfl _ _ _) rfl ?_
  exact ⟨rfl, rfl⟩
set_option maxRecDepth 100000 in
theorem tnil_drop (id : Int) (w : World) : Calls Try.prog 13 #[.pointer none, .int .i64 id] w fun e w' => e = .returned (.bool false) ∧ w' = w := by
  go_enter Try.func13, Try.ntmps13
  go_wp2
  go_ret
  exact ⟨rfl, rfl⟩
set_option maxRecDepth 100000 in
theorem tnil_due (now : Int) (w : World) : Calls Try.prog 16 #[.pointer none, .int .i64 now] w fun e w' => e = .returned (.slice none 0 0) ∧ w' = w := by
  go_enter Try.func16, Try.ntmps16
  go_wp2
  go_ret
  exact ⟨rfl, rfl⟩
set_option maxRecDepth 100000 in
theorem tnil_next (w : World) : Calls Try.prog 18 #[.pointer none] w fun e w' => e = .returned (.tuple #[.int .i64 0, .int .i64 0, .bool false]) ∧ w' = w := by
  go_enter Try.func18, Try.ntmps18
  go_wp2
  go_ret3
  exact ⟨rfl, rfl⟩
set_option maxRecDepth 100000 in
theorem tnil_till (id : Int) (w : World) : Calls Try.prog 20 #[.pointer none, .int .i64 id] w fun e w' => e = .returned (.tuple #[.int .i64 0, .bool false]) ∧ w' = w := by
  go_enter Try.func20, Try.ntmps20
  go_wp2
  go_ret2
  exact ⟨rfl, rfl⟩
set_option maxRecDepth 100000 in
theorem tnil_len (w : World) : Calls Try.prog 19 #[.pointer none] w fun e w' => e = .returned (.int .i64 0) ∧ w' = w := by
  go_enter Try.func19, Try.ntmps19
  go_wp2
  go_ret
  exact ⟨rfl, rfl⟩
theorem sl_lit (w : World) (x : Int) : Sl (Value.int .i64) (w.heap.size + 1) (w.alloc (.cells #[.int .i64 x] 3)) (.slice (some ⟨w.heap.size, 0, none⟩) 1 1) [x] := by
  refine ⟨some ⟨w.heap.size, 0, none⟩, 1, rfl, Nat.le_refl _, by decide, fun i hi => ⟨w.heap.size, 0, rfl, Nat.lt_succ_self _, ?_⟩⟩
  have : i = 0 := by simp at hi; omega
  subst this
  rw [cell_of_row _ _ (0 + 0) _ _ (0, 0) (heap_alloc_new w (.cells #[.int .i64 x] 3))]
  rfl
theorem same_lit (w : World) (b : Nat) (u : Value) (x : Int) (h : Ow (Value.int .i64) 3 w b u [x]) :
    Calls Try.prog 15 #[u, .slice (some ⟨w.heap.size, 0, none⟩) 1 1] (w.alloc (.cells #[.int .i64 x] 3)) fun e w' => e = .returned (.bool true) ∧ Kp none' w w' := by
  have k : Kp none' w (w.alloc (.cells #[.int .i64 x] 3)) := Kp.alloc _ _ _
  refine (sameInts_sl u _ [x] _ _ _ (h.keptN k).sl (sl_lit w x) (by simp)).mono ?_
  rintro e w' ⟨rfl, hk⟩
  exact ⟨rfl, k.then hk⟩
set_option maxRecDepth 100000 in
set_option maxHeartbeats 1000000 in
theorem tlives_any (w : World) : Calls Try.prog 7 #[] w fun e w' => e = .returned (.bool true) ∧ Kp none' w w' := by
  have HN := hide (tnew_any w)
  go_enter Try.func7, Try.ntmps7
  go_upto_region 4 with (go_at_call 9; refine HN.out.mono ?_; clear HN; rintro e w1 ⟨p, F, rfl, h1, f1, k1⟩)
  have HS := hide (tset_any p F [] 1 5 w1 h1 (by decide))
  go_upto_region 5 with (go_at_call 11; refine HS.out.mono ?_; clear HS; rintro e w2 ⟨rfl, F2, h2, f2, g2, k2⟩)
  have e2 : setL 1 5 [] = [(5, 1)] := by decide
  rw [e2] at h2
  have HS := hide (tset_any p F2 [(5, 1)] 2 3 w2 h2 (by decide))
  go_upto_region 6 with (go_at_call 11; refine HS.out.mono ?_; clear HS; rintro e w3 ⟨rfl, F3, h3, f3, g3, k3⟩)
  have e3 : setL 2 3 [(5, 1)] = [(3, 2), (5, 1)] := by decide
  rw [e3] at h3
  have HD1 := hide (tdue_any p F3 [(3, 2), (5, 1)] 4 w3 h3)
  rw [show dueL 4 [(3, 2), (5, 1)] = [2] by decide, show restL 4 [(3, 2), (5, 1)] = [(5, 1)] by decide] at HD1
  go_wp2_with (first
    | (go_at_call 16; refine HD1.out.mono ?_; clear HD1; rintro e w4 ⟨u, rfl, o4, h4, k4⟩; have HI1 := hide (same_lit w4 _ u 2 o4))
    | (go_at_call 15; refine HI1.out.mono ?_; clear HI1; rintro e w5 ⟨rfl, k5⟩; have HD2 := hide (tdue_any p F3 [(5, 1)] 9 w5 (h4.kept k5 (fun _ _ h => h))); rw [show dueL 9 [(5, 1)] = [1] by decide, show restL 9 [(5, 1)] = [] by decide] at HD2)
    | (go_at_call 16; refine HD2.out.mono ?_; clear HD2; rintro e w6 ⟨u2, rfl, o6, h6, k6⟩; have HI2 := hide (same_lit w6 _ u2 1 o6))
    | (go_at_call 15; refine HI2.out.mono ?_; clear HI2; rintro e w7 ⟨rfl, k7⟩; have HL := hide (tlen_any p F3 [] w7 (h6.kept k7 (fun _ _ h => h))))
    | (go_at_call 19; refine HL.out.mono ?_; clear HL; rintro e w8 ⟨rfl, rfl⟩))
  go_ret
  have hF3 : ∀ k, k < w.heap.size → ¬ F3 k := fun k hk hf => by
    have s1 := k1.size
    have s2 := k2.size
    rcases g3 k hf with hf | hf
    · rcases g2 k hf with hf | hf
      · have := f1 k hf
        omega
      · omega
    · omega
  have K : Kp (fun k => w.heap.size ≤ k) w _ := ((((((k1.mono (fun _ _ h => h.elim)).then (k2.mono (fun k _ h => f1 k h))).then (k3.mono (fun k _ h => ?_))).then (k4.mono (fun k _ h => ?_))).then (k5.mono (fun _ _ h => h.elim))).then (k6.mono (fun k _ h => ?_))).then (k7.mono (fun _ _ h => h.elim))
  · exact ⟨rfl, K.mono (fun k hk h => by omega)⟩
  · exact Nat.le_of_not_lt (fun hh => hF3 k hh (f3 k h))
  · exact Nat.le_of_not_lt (fun hh => hF3 k hh h)
  · exact Nat.le_of_not_lt (fun hh => hF3 k hh h)

end Go.Proofs.Ytpoahegccjgnjaa
