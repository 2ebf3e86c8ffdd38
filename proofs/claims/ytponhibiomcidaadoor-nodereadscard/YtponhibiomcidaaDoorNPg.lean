/- Contracts, over the turned program: slices of the library that are laid one behind the other, and copies of them, as the program calls them. Conditions: those that each theorem states. -/
import Derived.Test.YtponhibiomcidaaDoorNApp
import Derived.Test.YtponhibiomcidaaDoorNRefR
import Derived.Lib.AppendZerosOnto
namespace Go.Proofs.YtponhibiomcidaaDoor
open Go Go.RowKit
set_option linter.unusedVariables false

theorem app_one {α : Type} (f : α → Value) (e t : TypeId) (z : Value) (by_ : Nat) (ht : Tryd.prog.underlying t = some (.slice e)) (hinfo : (Tryd.prog.info? e).map (fun i => (i.zero, i.size, i.bytes)) = some (some z, 1, by_)) (hzc : z.cells.size = 1) (hby : by_ ≤ 64)
    (w : World) (base : Nat) (v x : Value) (l k : List α) (hO : Ow f e w base v l) (hs : Src Tryd.prog 1 t x k.length (k.map f) w) (hb : base ≤ w.heap.size) (hl : l.length + k.length ≤ 1000000000) :
    ∃ v' w', (Builtin.append_ #[t, t] t #[v, x]).run Tryd.prog w = .ok v' w' ∧ Ow f e w' base v' (l ++ k) ∧ w.grownBy w' v.ownBlock ∧ (v'.ownBlock = v.ownBlock ∨ v'.ownBlock = some w.heap.size) := by
  obtain ⟨v', w', h1, h2, h3, h4⟩ := app_row t e t z 1 by_ ht hinfo hzc hby w base v _ _ x _ _ hO hs hb hl
  refine ⟨v', w', h1, ?_, h3, h4⟩
  unfold Ow
  rw [List.length_append, List.map_append]
  exact h2
theorem appS (w : World) (base : Nat) (v x : Value) (l k : List ByteArray) (hO : Ow Value.string 9 w base v l) (hs : Src Tryd.prog 1 24 x k.length (k.map Value.string) w) (hb : base ≤ w.heap.size) (hl : l.length + k.length ≤ 1000000000) :
    ∃ v' w', (Builtin.append_ #[24, 24] 24 #[v, x]).run Tryd.prog w = .ok v' w' ∧ Ow Value.string 9 w' base v' (l ++ k) ∧ w.grownBy w' v.ownBlock ∧ (v'.ownBlock = v.ownBlock ∨ v'.ownBlock = some w.heap.size) :=
  app_one Value.string 9 24 _ 16 Tryd.underlying24 infoTx rfl (by omega) w base v x l k hO hs hb hl
theorem appI (w : World) (base : Nat) (v x : Value) (l k : List Int) (hO : Ow (Value.int .i64) 3 w base v l) (hs : Src Tryd.prog 1 25 x k.length (k.map (Value.int .i64)) w) (hb : base ≤ w.heap.size) (hl : l.length + k.length ≤ 1000000000) :
    ∃ v' w', (Builtin.append_ #[25, 25] 25 #[v, x]).run Tryd.prog w = .ok v' w' ∧ Ow (Value.int .i64) 3 w' base v' (l ++ k) ∧ w.grownBy w' v.ownBlock ∧ (v'.ownBlock = v.ownBlock ∨ v'.ownBlock = some w.heap.size) :=
  app_one (Value.int .i64) 3 25 _ 8 Tryd.underlying25 infoI rfl (by omega) w base v x l k hO hs hb hl
set_option maxRecDepth 100000 in
/-- Room for so many elements, in a row of its own. -/
theorem zeros_row (t e : TypeId) (z : Value) (sz by_ : Nat) (ht : Tryd.prog.underlying t = some (.slice e)) (hinfo : (Tryd.prog.info? e).map (fun i => (i.zero, i.size, i.bytes)) = some (some z, sz, by_)) (hzc : z.cells.size = sz) (hsz : 0 < sz) (hby : by_ ≤ 64) (w : World) (n : Nat) (h0 : 0 < n) (hn : n ≤ 1000000000) :
    ∃ c w', (Builtin.append_ #[t, 3] t #[.slice none 0 0, .int .i64 (n : Int)]).run Tryd.prog w = .ok (.slice (some ⟨w.heap.size, 0, none⟩) n c) w' ∧ w'.ownsRow w.heap.size e sz (.slice (some ⟨w.heap.size, 0, none⟩) 0 c) 0 [] ∧ Kp none' w w' := by
  obtain ⟨i0, hi, hz0, hz1, hz2⟩ := info_parts hinfo
  have hfits : n * by_ ≤ 140737488355328 := by
    have : n * by_ ≤ 1000000000 * 64 := Nat.mul_le_mul hn hby
    omega
  have hr := Lib.run_append_grow_zeros (P := Tryd.prog) w t 3 t e i0 z .i64 .i64 ht Tryd.underlying3 hi hz0 none 0 0 [] (run_firstCells_none w.drew i0.size 0 0 0) n h0 (by omega) (by omega) (by omega) (by rw [hz2]; omega) (growslice_fits (by omega) (by rw [hz2, Nat.zero_add]; exact hfits))
  rw [Nat.zero_add] at hr
  have hge := grownCap_ge w n 0 e
  have hcm : grownCap w n 0 e ≤ maxLen := grownCap_le_maxLen w _ 0 e (by unfold maxLen; omega)
  refine ⟨_, _, hr, ⟨by simp, .inr ⟨w.heap.size, grownCap w n 0 e, _, rfl, Nat.le_refl _, heap_alloc_new w.drew _, Nat.zero_le _, hcm, ?_, by simp⟩⟩, (Kp.drew _ _).thenN (Kp.alloc _ _ _)⟩
  simp only [Array.size_append, List.size_toArray, List.length_nil, size_zeroCells, hzc]
  rw [Nat.zero_add, ← Nat.add_mul]
  congr 1
  omega
theorem flat_take {α : Type} (ls : List (List α)) (j : Nat) (h : j < ls.length) : (ls.take (j + 1)).flatten = (ls.take j).flatten ++ ls[j] := by
  rw [List.take_succ_eq_append_getElem h, List.flatten_append]
  simp
theorem flat_take_le {α : Type} (ls : List (List α)) (j : Nat) : (ls.take j).flatten.length ≤ ls.flatten.length := by
  conv => rhs; rw [← List.take_append_drop j ls, List.flatten_append, List.length_append]
  exact Nat.le_add_right _ _

set_option maxRecDepth 100000 in
set_option maxHeartbeats 600000 in
theorem growP (n : Nat) (w : World) (hn : n ≤ 1000000000) :
    Calls Tryd.prog 72 #[.slice none 0 0, .int .i64 (n : Int)] w fun e w' => ∃ v', e = .returned v' ∧ OwP w' w.heap.size v' [] ∧ Kp none' w w' := by
  by_cases h0 : n = 0
  · subst h0
    rw [show ((0 : Nat) : Int) = 0 from rfl]
    go_enter Tryd.func72, Tryd.ntmps72
    go_wp2
    go_ret
    exact ⟨_, rfl, OwP.nil _ _, Kp.refl _ _⟩
  · obtain ⟨c, w1, hr, hO, hK⟩ := zeros_row 23 51 _ 2 32 Tryd.underlying23 infoPr rfl (by omega) (by omega) w n (by omega) hn
    have h1 : ¬ (n : Int) < 0 := by omega
    have h2 : (0 : Int) < (n : Int) := by omega
    have h3 : wrap64 (n : Int) = (n : Int) := by unfold wrap64; omega
    have HO := hide hO
    clear hO h0
    go_enter Tryd.func72, Tryd.ntmps72
    go_wp2_with (first
      | (at_builtin; refine nwpList_app_at rfl (.tmp 20) (.tmp 21) 23 3 rfl _ _ rfl rfl (by first | exact hr | (rw [h3]; exact hr)) ?_)
      | fail)
    go_ret
    exact ⟨_, rfl, HO.out, hK⟩

set_option maxRecDepth 100000 in
set_option maxHeartbeats 1000000 in
theorem concatP (v : Value) (vs : List Value) (ls : List (List Pr)) (B B' : Nat) (w : World) (hV : Sl (fun x : Value => x) B w v vs) (hL : vs.length = ls.length) (hI : ∀ i (h : i < vs.length) (h' : i < ls.length), Prs B' w vs[i] ls[i]) (hT : ls.flatten.length ≤ 100000000) :
    Calls Tryd.prog 53 #[v] w fun e w' => ∃ v', e = .returned v' ∧ OwP w' w.heap.size v' ls.flatten ∧ Kp none' w w' := by
  obtain ⟨a, c, rfl, hlc, hcm, ha⟩ := hV
  unfold maxLen at hcm
  have HA : Hid (∀ i (h : i < vs.length), ∃ b off, a = some ⟨b, off, none⟩ ∧ b < B ∧ w.cell? ⟨b, off + i, none⟩ = some (vs[i])) := ha
  have HI := hide hI
  have HL := hide hL
  have HG : Hid (∀ W : World, ∀ n : Nat, n ≤ 1000000000 → Calls Tryd.prog 72 #[.slice none 0 0, .int .i64 (n : Int)] W fun e w' => ∃ v', e = .returned v' ∧ OwP w' W.heap.size v' [] ∧ Kp none' W w') := fun W n hn => growP n W hn
  obtain ⟨m, Hm⟩ : ∃ m, Hid (vs.length = m) := ⟨_, rfl⟩
  rw [Hm.out] at hlc
  clear ha hI hL
  rw [Hm.out]
  go_enter Tryd.func53, Tryd.ntmps53
  go_wp2
  go_loopw [3, 5, 11] (fun t _ u wr => ∃ j q : Nat, j ≤ m ∧ u = .int .i64 j ∧ t = .int .i64 (q : Int) ∧ Hid ((ls.take j).flatten.length = q) ∧ w = wr) (fun _ _ u _ => m - (intOf u).toNat)
  case atStart => exact ⟨0, 0, Nat.zero_le _, rfl, rfl, rfl, rfl⟩
  case round =>
    obtain ⟨j, q, hj, rfl, rfl, HQ, rfl⟩ := hrel
    by_cases hlt : j < m
    · have hlv : j < vs.length := by rw [Hm.out]; exact hlt
      have hll : j < ls.length := by rw [← HL.out]; exact hlv
      obtain ⟨b, o, rfl, _, hc⟩ := HA.out j hlv
      obtain ⟨a', c', e, hx⟩ := HI.out j hlv hll
      clear hx
      rw [e] at hc
      have hlt' : (j : Int) < (m : Int) := by omega
      obtain ⟨r, HR⟩ : ∃ r : Nat, Hid ((ls.take (j + 1)).flatten.length = r) := ⟨_, rfl⟩
      have HS : Hid (q + ls[j].length = r ∧ r ≤ 100000000) := by
        have h1 := flat_take ls j hll
        have h2 := flat_take_le ls (j + 1)
        have h3 := congrArg List.length h1
        rw [List.length_append, HQ.out, HR.out] at h3
        rw [HR.out] at h2
        show _ ∧ _
        omega
      generalize ls[j].length = d at *
      have hw1 : wrap64 ((q : Int) + (d : Int)) = (r : Int) := by have := HS.out; unfold wrap64; omega
      have hw2 : IntKind.i64.wrap ((q : Int) + (d : Int)) = (r : Int) := by have := HS.out; rw [IntKind.wrap_i64]; omega
      have hr0 : ¬ (r : Int) < 0 := by omega
      clear HQ e
      go_wp2
      go_roundw
      case rel => exact ⟨j + 1, r, by omega, by go_num, by first | rfl | rw [hw1] | rw [hw2], HR, by first | rfl | trivial⟩
      case measure => simp [intOf]; omega
    · have hlt' : ¬ (j : Int) < (m : Int) := by omega
      have hjm : j = m := by omega
      have Hq : Hid (q ≤ 1000000000) := by
        have h1 := flat_take_le ls j
        rw [HQ.out] at h1
        show _ ≤ _
        omega
      clear HQ
      go_wp2_with (first
        | (go_at_call 72; refine (HG.out _ q Hq.out).mono ?_; rintro e w1 ⟨v1, rfl, hO1, hK1⟩)
        | fail)
      have HO1 := hide hO1
      clear hO1 hlt' hjm
      go_loopw [6, 8, 27] (fun t _ u wr => ∃ j : Nat, j ≤ m ∧ u = .int .i64 j ∧ OwP wr w.heap.size t ((ls.take j).flatten) ∧ Kp none' w wr) (fun _ _ u _ => m - (intOf u).toNat)
      case atStart => exact ⟨0, Nat.zero_le _, rfl, HO1.out, hK1⟩
      case round =>
        obtain ⟨j, hj, rfl, hO, hK⟩ := hrel
        by_cases hlt : j < m
        · have hlv : j < vs.length := by rw [Hm.out]; exact hlt
          have hll : j < ls.length := by rw [← HL.out]; exact hlv
          obtain ⟨b, o, rfl, _, hc'⟩ := HA.out j hlv
          have hc := hK.cell hc' (fun h => h)
          have hin := (HI.out j hlv hll).keptN hK
          have hlt' : (j : Int) < (m : Int) := by omega
          have hb : (ls.take j).flatten.length + ls[j].length ≤ 1000000000 := by
            have h1 := flat_take ls j hll
            have h2 := flat_take_le ls (j + 1)
            have h3 := congrArg List.length h1
            rw [List.length_append] at h3
            omega
          obtain ⟨v2, w2, hq2, hO2, hg2, hv2⟩ := appP _ w.heap.size u6 vs[j] _ ls[j] hO hin.src hK.size hb
          have hk2 : Kp none' w w2 := hK.trans (Kp.ofGrown hg2 (S := fun k => u6.ownBlock = some k) (fun k hk _ => hk)) (fun _ _ h => h) (fun k hk he => absurd hk (by have := (hO.lt k he).1; omega))
          have HT2 : Hid (OwP w2 w.heap.size v2 ((ls.take (j + 1)).flatten)) := by
            show OwP _ _ _ _
            rw [flat_take ls j hll]
            exact hO2
          obtain ⟨a', c', e, _⟩ := hin
          rw [e] at hc hq2
          clear hb hO2 hc' e
          go_wp2_with (first
            | (at_builtin; refine nwpList_app_at rfl (.tmp 31) (.tmp 32) 23 23 rfl _ _ rfl rfl hq2 ?_)
            | fail)
          go_roundw
          case rel => exact ⟨j + 1, by omega, by go_num, HT2.out, hk2⟩
          case measure => simp [intOf]; omega
        · have hlt' : ¬ (j : Int) < (m : Int) := by omega
          have HF : Hid (OwP wr w.heap.size u6 ls.flatten) := by
            have e : ls.take j = ls := List.take_of_length_le (by have := HL.out; have := Hm.out; omega)
            rw [e] at hO
            exact hO
          go_wp2
          go_ret
          exact ⟨_, rfl, HF.out, hK⟩

end Go.Proofs.YtponhibiomcidaaDoor
