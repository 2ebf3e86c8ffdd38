/- Contract, over the turned program: what the laws of layer 16 ask first holds, and turns nothing that was there. Conditions: those that each theorem states. -/
import Derived.Test.YthopmlgfklhagabDoorHRd
import Derived.Test.YthopmlgfklhagabDoorHJr
import Derived.Test.YthopmlgfklhagabDoorHJa
import Derived.Deep.RegionHeldLaw
namespace Go.Proofs.YthopmlgfklhagabDoor
open Go.RowKit
set_option linter.unusedVariables false

set_option maxHeartbeats 400000 in
theorem l_number (n : Int) (w : World) : Calls Tryd.prog 14 #[.int .i64 n] w fun e w' => e = .returned (nV n).val ∧ w.grownBy w' none := by
  have hga := World.grownBy_alloc w (.cells #[.int .i64 1, .int .i64 n, .string ⟨#[]⟩] 25) none
  have hV : Vb (w.alloc (.cells #[.int .i64 1, .int .i64 n, .string ⟨#[]⟩] 25)) w.heap.size (nV n) := Vb.new w (nV n)
  go_enter Tryd.func14, Tryd.ntmps14
  go_wp2
  refine bodyPost_ret (results_v1 rfl _ w.heap.size _ (nV n) rfl hV) rfl ?_
  exact ⟨rfl, hga⟩
theorem l_num (n : Int) : Hid (∀ W0, Calls Tryd.prog 14 #[.int .i64 n] W0 fun e w' => e = .returned (.agg #[.int .i64 1, .int .i64 n, .string ⟨#[]⟩]) ∧ W0.grownBy w' none) := fun W0 => l_number n W0
theorem ins_lit {w : World} {p : Nat} (l : List In) (hl : l.length ≤ 1000) (h : w.heap[p]? = some (.cells (ics l).toArray 51 (0, 0))) : Ins w (.slice (some ⟨p, 0, none⟩) l.length l.length) l := by
  refine ⟨some ⟨p, 0, none⟩, l.length, rfl, Nat.le_refl _, by unfold maxLen; omega, fun i hi => ⟨p, 0, rfl, (Array.getElem?_eq_some_iff.1 h).1, fun j u hu => ?_⟩⟩
  have hj : j < 7 := by have := (List.getElem?_eq_some_iff.1 hu).1; simpa [In.cells] using this
  rw [show 0 + i * 7 + j = i * 7 + j by omega, cell_of_row w p _ _ 51 (0, 0) h]
  rw [← ics_at l i j hi hj] at hu
  simpa using hu
theorem prog5_wf : ∀ x ∈ prog5, x.wf := by
  have h : ∀ op a b c, ir op → ir a → ir b → ir c → ∀ v, v.wf → In.wf ⟨op, a, b, c, v⟩ := fun _ _ _ _ h1 h2 h3 h4 _ hv => ⟨hv, h1, h2, h3, h4⟩
  have k : ∀ n : Int, 0 ≤ n → n ≤ 100 → ir n := fun n h0 h1 => by unfold ir; omega
  intro x hx
  simp only [prog5, List.mem_cons, List.not_mem_nil, or_false] at hx
  rcases hx with rfl | rfl | rfl | rfl
  · exact h _ _ _ _ (k _ (by decide) (by decide)) (k _ (by decide) (by decide)) (k _ (by decide) (by decide)) (k _ (by decide) (by decide)) _ (rv_nV 2 (by decide) (by decide)).1
  all_goals exact h _ _ _ _ (k _ (by decide) (by decide)) (k _ (by decide) (by decide)) (k _ (by decide) (by decide)) (k _ (by decide) (by decide)) _ zV_wf
theorem twf_none : Twf (fun _ => none) := fun _ _ h => by cases h
theorem rw_sl {α : Type} {c : α → List Value} {n : Nat} {w : World} {v : Value} {l : List α} (h : Rw c n w v l) : ∃ a m cp, v = .slice a m cp := by
  obtain ⟨a, cp, rfl, _⟩ := h
  exact ⟨_, _, _, rfl⟩
theorem rw_six {w : World} {v : Value} {l : List V} (h : Rw V.cells 3 w v l) (h6 : l.length = 6) : ∃ b off cap, v = .slice (some ⟨b, off, none⟩) 6 cap := by
  obtain ⟨a, cp, rfl, _, _, hc⟩ := h
  obtain ⟨b, off, rfl, _⟩ := hc 0 (by omega)
  rw [h6]
  exact ⟨_, _, _, rfl⟩
def LivA (e : Ending) (w' : World) : Prop := ∃ a1 m1 c1 a2 m2 c2 a3 m3 c3 b off cap, e = .returned (.tuple #[.agg #[.slice a1 m1 c1, .slice a2 m2 c2, .slice a3 m3 c3, .int .i64 0, .int .i64 0, .int .i64 0, .int .i64 0, .string ⟨#[]⟩, .int .i64 3, .slice (some ⟨b, off, none⟩) 6 cap], .int .i64 0]) ∧ Rw V.cells 3 w' (.slice (some ⟨b, off, none⟩) 6 cap) rg7
def LivB (e : Ending) : Prop := ∃ a4 m4 c4 a5 m5 c5 a6 m6 c6 a7 m7 c7, e = .returned (.tuple #[.agg #[.slice a4 m4 c4, .slice a5 m5 c5, .slice a6 m6 c6, .int .i64 0, .int .i64 1, .int .i64 1, .int .i64 7, .string ⟨#[]⟩, .int .i64 0, .slice a7 m7 c7], .int .i64 0])
theorem liv_a (v rv : Value) (w : World) (hI : Ins w v prog5) (hG : Glob w) (hr : Rw V.cells 3 w rv (rgF (nV 5))) : Calls Tryd.prog 12 #[v, .agg #[.int .i64 0, rv], .nilIface] w fun e w' => LivA e w' ∧ w.grownBy w' none := by
  refine (m_run v rv .nilIface prog5 0 (rgF (nV 5)) (fun _ => none) w hI prog5_wf hG hr (fun x hx => (rgF_ok (rv_nV 5 (by decide) (by decide)) x hx).1) twf_none (.inl rfl) (fun W0 d _ => ask_nil _ W0)).mono ?_
  rintro e w' ⟨⟨x, rfl, hE⟩, hg⟩
  rw [(run5 _).1] at hE
  rw [(run5 (fun _ => none)).2]
  obtain ⟨pv, ov, kv, rv, rfl, a, b, c, d⟩ := hE
  obtain ⟨a1, m1, c1, rfl⟩ := rw_sl a
  obtain ⟨a2, m2, c2, rfl⟩ := rw_sl b
  obtain ⟨a3, m3, c3, rfl⟩ := rw_sl c
  obtain ⟨b', off, cap, rfl⟩ := rw_six d rfl
  exact ⟨⟨_, _, _, _, _, _, _, _, _, _, _, _, rfl, d⟩, hg⟩
theorem liv_b (v rv : Value) (w : World) (hI : Ins w v prog5) (hG : Glob w) (hr : Rw V.cells 3 w rv rg7) : Calls Tryd.prog 12 #[v, .agg #[.int .i64 3, rv], .nilIface] w fun e w' => LivB e ∧ w.grownBy w' none := by
  refine (m_run v rv .nilIface prog5 3 rg7 (fun _ => none) w hI prog5_wf hG hr (fun x hx => (rg7_ok x hx).1) twf_none (.inl rfl) (fun W0 d _ => ask_nil _ W0)).mono ?_
  rintro e w' ⟨⟨x, rfl, hE⟩, hg⟩
  rw [(run7 _).1] at hE
  rw [(run7 (fun _ => none)).2]
  obtain ⟨pv, ov, kv, rv, rfl, a, b, c, d⟩ := hE
  obtain ⟨a1, m1, c1, rfl⟩ := rw_sl a
  obtain ⟨a2, m2, c2, rfl⟩ := rw_sl b
  obtain ⟨a3, m3, c3, rfl⟩ := rw_sl c
  obtain ⟨a4, m4, c4, rfl⟩ := rw_sl d
  exact ⟨⟨_, _, _, _, _, _, _, _, _, _, _, _, rfl⟩, hg⟩
set_option maxRecDepth 100000 in
set_option maxHeartbeats 2000000 in
theorem mlives_any (w : World) (hG : Glob w) : Calls Tryd.prog 5 #[] w fun e w' => e = .returned (.bool true) ∧ w.grownBy w' none := by
  have h57 : Hid (∀ W0 : World, (binOp .eql 25 (.agg #[.int .i64 1, .int .i64 7, .string ⟨#[]⟩]) (.agg #[.int .i64 1, .int .i64 7, .string ⟨#[]⟩])).run Tryd.prog W0 = .ok (.bool true) W0) := fun W0 => by rw [run_eqV, eqV_self]
  go_enter Tryd.func5, Tryd.ntmps5
  go_upto_region 2 with (go_at_call 14; refine ((l_num _).out _).mono ?_; rintro e w1 ⟨rfl, hg1⟩)
  have hA := World.grownBy_alloc w1 (.cells #[.int .i64 1, .int .i64 1, .int .i64 0, .int .i64 0, .int .i64 1, .int .i64 2, .string ⟨#[]⟩, .int .i64 3, .int .i64 0, .int .i64 0, .int .i64 1, .int .i64 0, .int .i64 0, .string ⟨#[]⟩, .int .i64 17, .int .i64 0, .int .i64 0, .int .i64 0, .int .i64 0, .int .i64 0, .string ⟨#[]⟩, .int .i64 18, .int .i64 0, .int .i64 0, .int .i64 0, .int .i64 0, .int .i64 0, .string ⟨#[]⟩] 51) none
  have hI : Ins (w1.alloc (.cells #[.int .i64 1, .int .i64 1, .int .i64 0, .int .i64 0, .int .i64 1, .int .i64 2, .string ⟨#[]⟩, .int .i64 3, .int .i64 0, .int .i64 0, .int .i64 1, .int .i64 0, .int .i64 0, .string ⟨#[]⟩, .int .i64 17, .int .i64 0, .int .i64 0, .int .i64 0, .int .i64 0, .int .i64 0, .string ⟨#[]⟩, .int .i64 18, .int .i64 0, .int .i64 0, .int .i64 0, .int .i64 0, .int .i64 0, .string ⟨#[]⟩] 51)) (.slice (some ⟨w1.heap.size, 0, none⟩) 4 4) prog5 := ins_lit prog5 (by decide) (heap_alloc_new w1 (.cells #[.int .i64 1, .int .i64 1, .int .i64 0, .int .i64 0, .int .i64 1, .int .i64 2, .string ⟨#[]⟩, .int .i64 3, .int .i64 0, .int .i64 0, .int .i64 1, .int .i64 0, .int .i64 0, .string ⟨#[]⟩, .int .i64 17, .int .i64 0, .int .i64 0, .int .i64 0, .int .i64 0, .int .i64 0, .string ⟨#[]⟩, .int .i64 18, .int .i64 0, .int .i64 0, .int .i64 0, .int .i64 0, .int .i64 0, .string ⟨#[]⟩] 51))
  have hg2 := grown_up hg1 hA
  generalize w1.alloc (.cells #[.int .i64 1, .int .i64 1, .int .i64 0, .int .i64 0, .int .i64 1, .int .i64 2, .string ⟨#[]⟩, .int .i64 3, .int .i64 0, .int .i64 0, .int .i64 1, .int .i64 0, .int .i64 0, .string ⟨#[]⟩, .int .i64 17, .int .i64 0, .int .i64 0, .int .i64 0, .int .i64 0, .int .i64 0, .string ⟨#[]⟩, .int .i64 18, .int .i64 0, .int .i64 0, .int .i64 0, .int .i64 0, .int .i64 0, .string ⟨#[]⟩] 51) = W2 at *
  generalize w1.heap.size = p at *
  go_upto_region 3 with (first
    | (go_at_call 14; refine ((l_num _).out _).mono ?_; rintro e w3 ⟨rfl, hg3⟩)
    | (go_at_call 10; refine (m_first (nV 5) _).mono ?_; rintro e w4 ⟨⟨f, rfl, hF⟩, hg4⟩)
    | (go_at_call 12; refine (liv_a _ _ _ (hI.keptN (grown_up hg3 hg4)) (hG.keptN (grown_up hg2 (grown_up hg3 hg4))) hF).mono ?_; rintro e w5 ⟨⟨a1, m1, c1, a2, m2, c2, a3, m3, c3, b, off, cap, rfl, hR⟩, hg5⟩))
  have hg25 := grown_up (grown_up hg3 hg4) hg5
  have hA6 := World.grownBy_alloc w5 (.cells #[.slice a1 m1 c1, .slice a2 m2 c2, .slice a3 m3 c3, .int .i64 0, .int .i64 0, .int .i64 0, .int .i64 0, .string ⟨#[]⟩, .int .i64 3, .slice (some ⟨b, off, none⟩) 6 cap] 43) none
  have hE6 := heap_alloc_new w5 (.cells #[.slice a1 m1 c1, .slice a2 m2 c2, .slice a3 m3 c3, .int .i64 0, .int .i64 0, .int .i64 0, .int .i64 0, .string ⟨#[]⟩, .int .i64 3, .slice (some ⟨b, off, none⟩) 6 cap] 43)
  have hI6 := hI.keptN (grown_up hg25 hA6)
  have hR6 := hR.keptN hA6
  have hg6 := grown_up (grown_up hg2 hg25) hA6
  clear hg3 hg4 hg5 hF hI hR hA6 hg25 hg2 hg1
  generalize w5.alloc (.cells #[.slice a1 m1 c1, .slice a2 m2 c2, .slice a3 m3 c3, .int .i64 0, .int .i64 0, .int .i64 0, .int .i64 0, .string ⟨#[]⟩, .int .i64 3, .slice (some ⟨b, off, none⟩) 6 cap] 43) = W6 at *
  obtain ⟨ea, hea⟩ : ∃ ea, w5.heap.size = ea := ⟨_, rfl⟩
  rw [hea] at hE6 ⊢
  have e4 : W6.cell? ⟨ea, 4, none⟩ = some (.int .i64 0) := by rw [cell_of_row _ _ _ _ _ _ hE6]; rfl
  have e8 : W6.cell? ⟨ea, 8, none⟩ = some (.int .i64 3) := by rw [cell_of_row _ _ _ _ _ _ hE6]; rfl
  have e9 : W6.cell? ⟨ea, 9, none⟩ = some (.slice (some ⟨b, off, none⟩) 6 cap) := by rw [cell_of_row _ _ _ _ _ _ hE6]; rfl
  go_upto_region 4 with (go_at_call 12; refine (liv_b _ _ _ hI6 (hG.keptN hg6) hR6).mono ?_; rintro e w7 ⟨⟨a4, m4, c4, a5, m5, c5, a6, m6, c6, a7, m7, c7, rfl⟩, hg7⟩)
  have hA8 := World.grownBy_alloc w7 (.cells #[.slice a4 m4 c4, .slice a5 m5 c5, .slice a6 m6 c6, .int .i64 0, .int .i64 1, .int .i64 1, .int .i64 7, .string ⟨#[]⟩, .int .i64 0, .slice a7 m7 c7] 43) none
  have hE8 := heap_alloc_new w7 (.cells #[.slice a4 m4 c4, .slice a5 m5 c5, .slice a6 m6 c6, .int .i64 0, .int .i64 1, .int .i64 1, .int .i64 7, .string ⟨#[]⟩, .int .i64 0, .slice a7 m7 c7] 43)
  have hg68 := grown_up hg7 hA8
  have hR8 := hR6.keptN hg68
  have e4 := cell_g e4 hg68
  have e8 := cell_g e8 hg68
  have e9 := cell_g e9 hg68
  have hg8 := grown_up hg6 hg68
  clear hg7 hA8 hg68 hR6 hI6 hg6
  generalize w7.alloc (.cells #[.slice a4 m4 c4, .slice a5 m5 c5, .slice a6 m6 c6, .int .i64 0, .int .i64 1, .int .i64 1, .int .i64 7, .string ⟨#[]⟩, .int .i64 0, .slice a7 m7 c7] 43) = W8 at *
  obtain ⟨eb, heb⟩ : ∃ eb, w7.heap.size = eb := ⟨_, rfl⟩
  rw [heb] at hE8 ⊢
  have f4 : W8.cell? ⟨eb, 4, none⟩ = some (.int .i64 1) := by rw [cell_of_row _ _ _ _ _ _ hE8]; rfl
  have f5 : W8.cell? ⟨eb, 5, none⟩ = some (.int .i64 1) := by rw [cell_of_row _ _ _ _ _ _ hE8]; rfl
  have f6 : W8.cell? ⟨eb, 6, none⟩ = some (.int .i64 7) := by rw [cell_of_row _ _ _ _ _ _ hE8]; rfl
  have f7 : W8.cell? ⟨eb, 7, none⟩ = some (.string ⟨#[]⟩) := by rw [cell_of_row _ _ _ _ _ _ hE8]; rfl
  obtain ⟨_, _, e0, _, _, hc⟩ := hR8
  obtain ⟨b', off', e2, _, hcc⟩ := hc 0 (by decide)
  rw [e2] at e0
  have e3 := Option.some.inj (Value.slice.inj e0).1
  obtain rfl : b = b' := congrArg Addr.block e3
  obtain rfl : off = off' := congrArg Addr.off e3
  have r0 : W8.cell? ⟨b, off, none⟩ = some (.int .i64 1) := hcc 0 _ rfl
  have r1 : W8.cell? ⟨b, off + 1, none⟩ = some (.int .i64 7) := hcc 1 _ rfl
  have r2 : W8.cell? ⟨b, off + 2, none⟩ = some (.string ⟨#[]⟩) := hcc 2 _ rfl
  clear hc hcc e0 e2 e3 hE8 hE6
  have q := fun (o k : Nat) (v : Value) (hc : W8.cell? ⟨o, k, none⟩ = some v) (w' : World) (h : W8.grownBy w' none) => cell_g hc h
  have Q1 := q _ _ _ e4
  have Q2 := q _ _ _ e8
  have Q3 := q _ _ _ e9
  have Q4 := q _ _ _ f4
  have Q5 := q _ _ _ f5
  have Q6 := q _ _ _ f6
  have Q7 := q _ _ _ f7
  have Q8 := q _ _ _ r0
  have Q9 := q _ _ _ r1
  have Q10 := q _ _ _ r2
  have dr := grown_dr W8
  have h57 := h57.out
  clear q
  go_region_held_law (fun w' => W8.grownBy w' none) (first | assumption | exact dr) (first
    | (go_at_call 14; refine ((l_num _).out _).mono ?_; rintro e w9 ⟨rfl, hg9⟩; have S9 : W8.grownBy w9 none := by first | exact grown_up dr hg9 | exact grown_up S9 hg9 | exact grown_up (by assumption) hg9))
  go_wp2
  go_ret
  exact ⟨rfl, by first | exact grown_up hg8 (by assumption) | exact grown_up hg8 S9⟩

end Go.Proofs.YthopmlgfklhagabDoor
