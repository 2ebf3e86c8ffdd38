/- Contracts, over the turned program: slices of texts and of numbers that are laid one behind the other, and copies of them. Conditions: those that each theorem states. -/
import Derived.Test.YtjmkfkmdafjgnaaNPg
namespace Go.Proofs.Ytjmkfkmdafjgnaa
open Go Go.RowKit
set_option linter.unusedVariables false

set_option maxRecDepth 100000 in
set_option maxHeartbeats 600000 in
theorem growS (n : Nat) (w : World) (hn : n ≤ 1000000000) :
    Calls Try.prog 64 #[.slice none 0 0, .int .i64 (n : Int)] w fun e w' => ∃ v', e = .returned v' ∧ Ow Value.string 9 w' w.heap.size v' [] ∧ Kp none' w w' := by
  by_cases h0 : n = 0
  · subst h0
    rw [show ((0 : Nat) : Int) = 0 from rfl]
    go_enter Try.func64, Try.ntmps64
    go_wp2
    go_ret
    exact ⟨_, rfl, Ow.nil _ _ _ _, Kp.refl _ _⟩
  · obtain ⟨c, w1, hr, hO, hK⟩ := zeros_row 23 9 _ 1 16 Try.underlying23 infoTx rfl (by omega) (by omega) w n (by omega) hn
    have h1 : ¬ (n : Int) < 0 := by omega
    have h2 : (0 : Int) < (n : Int) := by omega
    have h3 : wrap64 (n : Int) = (n : Int) := by unfold wrap64; omega
    have HO := hide hO
    clear hO h0
    go_enter Try.func64, Try.ntmps64
    go_wp2_with (first
      | (at_builtin; refine nwpList_app_at rfl (.tmp 20) (.tmp 21) 23 3 rfl _ _ rfl rfl (by first | exact hr | (rw [h3]; exact hr)) ?_)
      | fail)
    go_ret
    exact ⟨_, rfl, HO.out, hK⟩

set_option maxRecDepth 100000 in
set_option maxHeartbeats 1000000 in
theorem concatS (v : Value) (vs : List Value) (ls : List (List ByteArray)) (B B' : Nat) (w : World) (hV : Sl (fun x : Value => x) B w v vs) (hL : vs.length = ls.length) (hI : ∀ i (h : i < vs.length) (h' : i < ls.length), Sl Value.string B' w vs[i] ls[i]) (hT : ls.flatten.length ≤ 100000000) :
    Calls Try.prog 43 #[v] w fun e w' => ∃ v', e = .returned v' ∧ Ow Value.string 9 w' w.heap.size v' ls.flatten ∧ Kp none' w w' := by
  obtain ⟨a, c, rfl, hlc, hcm, ha⟩ := hV
  unfold maxLen at hcm
  have HA : Hid (∀ i (h : i < vs.length), ∃ b off, a = some ⟨b, off, none⟩ ∧ b < B ∧ w.cell? ⟨b, off + i, none⟩ = some (vs[i])) := ha
  have HI := hide hI
  have HL := hide hL
  have HG : Hid (∀ W : World, ∀ n : Nat, n ≤ 1000000000 → Calls Try.prog 64 #[.slice none 0 0, .int .i64 (n : Int)] W fun e w' => ∃ v', e = .returned v' ∧ Ow Value.string 9 w' W.heap.size v' [] ∧ Kp none' W w') := fun W n hn => growS n W hn
  obtain ⟨m, Hm⟩ : ∃ m, Hid (vs.length = m) := ⟨_, rfl⟩
  rw [Hm.out] at hlc
  clear ha hI hL
  rw [Hm.out]
  go_enter Try.func43, Try.ntmps43
  go_wp2
  go_loopw [3, 5, 11] (fun t _ u wr => ∃ j q : Nat, j ≤ m ∧ u = .int .i64 j ∧ t = .int .i64 (q : Int) ∧ Hid ((ls.take j).flatten.length = q) ∧ w = wr) (fun _ _ u _ => m - (intOf u).toNat)
  case atStart => exact ⟨0, 0, Nat.zero_le _, rfl, rfl, rfl, rfl⟩
  case round =>
    obtain ⟨j, q, hj, rfl, rfl, HQ, rfl⟩ := hrel
    by_cases hlt : j < m
    · have hlv : j < vs.length := by rw [Hm.out]; exact hlt
      have hll : j < ls.length := by rw [← HL.out]; exact hlv
      obtain ⟨b, o, rfl, _, hc⟩ := HA.out j hlv
      obtain ⟨a', c', e, hx⟩ := HI.out j hlv hll
      clear hx
      rw [e] at hc
      have hlt' : (j : Int) < (m : Int) := by omega
      obtain ⟨r, HR⟩ : ∃ r : Nat, Hid ((ls.take (j + 1)).flatten.length = r) := ⟨_, rfl⟩
      have HS : Hid (q + ls[j].length = r ∧ r ≤ 100000000) := by
        have h1 := flat_take ls j hll
        have h2 := flat_take_le ls (j + 1)
        have h3 := congrArg List.length h1
        rw [List.length_append, HQ.out, HR.out] at h3
        rw [HR.out] at h2
        show _ ∧ _
        omega
      generalize ls[j].length = d at *
      have hw1 : wrap64 ((q : Int) + (d : Int)) = (r : Int) := by have := HS.out; unfold wrap64; omega
      have hw2 : IntKind.i64.wrap ((q : Int) + (d : Int)) = (r : Int) := by have := HS.out; rw [IntKind.wrap_i64]; omega
      have hr0 : ¬ (r : Int) < 0 := by omega
      clear HQ e
      go_wp2
      go_roundw
      case rel => exact ⟨j + 1, r, by omega, by go_num, by first | rfl | rw [hw1] | rw [hw2], HR, by first | rfl | trivial⟩
      case measure => simp [intOf]; omega
    · have hlt' : ¬ (j : Int) < (m : Int) := by omega
      have hjm : j = m := by omega
      have Hq : Hid (q ≤ 1000000000) := by
        have h1 := flat_take_le ls j
        rw [HQ.out] at h1
        show _ ≤ _
        omega
      clear HQ
      go_wp2_with (first
        | (go_at_call 64; refine (HG.out _ q Hq.out).mono ?_; rintro e w1 ⟨v1, rfl, hO1, hK1⟩)
        | fail)
      have HO1 := hide hO1
      clear hO1 hlt' hjm
      go_loopw [6, 8, 27] (fun t _ u wr => ∃ j : Nat, j ≤ m ∧ u = .int .i64 j ∧ Ow Value.string 9 wr w.heap.size t ((ls.take j).flatten) ∧ Kp none' w wr) (fun _ _ u _ => m - (intOf u).toNat)
      case atStart => exact ⟨0, Nat.zero_le _, rfl, HO1.out, hK1⟩
      case round =>
        obtain ⟨j, hj, rfl, hO, hK⟩ := hrel
        by_cases hlt : j < m
        · have hlv : j < vs.length := by rw [Hm.out]; exact hlt
          have hll : j < ls.length := by rw [← HL.out]; exact hlv
          obtain ⟨b, o, rfl, _, hc'⟩ := HA.out j hlv
          have hc := hK.cell hc' (fun h => h)
          have hin := (HI.out j hlv hll).keptN hK
          have hlt' : (j : Int) < (m : Int) := by omega
          have hb : (ls.take j).flatten.length + ls[j].length ≤ 1000000000 := by
            have h1 := flat_take ls j hll
            have h2 := flat_take_le ls (j + 1)
            have h3 := congrArg List.length h1
            rw [List.length_append] at h3
            omega
          obtain ⟨v2, w2, hq2, hO2, hg2, hv2⟩ := appS _ w.heap.size u6 vs[j] _ ls[j] hO (hin.src (fun _ => rfl) Try.underlying23) hK.size hb
          have hk2 : Kp none' w w2 := hK.trans (Kp.ofGrown hg2 (S := fun k => u6.ownBlock = some k) (fun k hk _ => hk)) (fun _ _ h => h) (fun k hk he => absurd hk (by have := (hO.lt k he).1; omega))
          have HT2 : Hid (Ow Value.string 9 w2 w.heap.size v2 ((ls.take (j + 1)).flatten)) := by
            show Ow Value.string 9 _ _ _ _
            rw [flat_take ls j hll]
            exact hO2
          obtain ⟨a', c', e, _⟩ := hin
          rw [e] at hc hq2
          clear hb hO2 hc' e
          go_wp2_with (first
            | (at_builtin; refine nwpList_app_at rfl (.tmp 31) (.tmp 32) 23 23 rfl _ _ rfl rfl hq2 ?_)
            | fail)
          go_roundw
          case rel => exact ⟨j + 1, by omega, by go_num, HT2.out, hk2⟩
          case measure => simp [intOf]; omega
        · have hlt' : ¬ (j : Int) < (m : Int) := by omega
          have HF : Hid (Ow Value.string 9 wr w.heap.size u6 ls.flatten) := by
            have e : ls.take j = ls := List.take_of_length_le (by have := HL.out; have := Hm.out; omega)
            rw [e] at hO
            exact hO
          go_wp2
          go_ret
          exact ⟨_, rfl, HF.out, hK⟩

set_option maxRecDepth 100000 in
set_option maxHeartbeats 600000 in
theorem cloneS (v : Value) (l : List ByteArray) (B : Nat) (w : World) (hI : Sl Value.string B w v l) (hT : l.length ≤ 100000000) :
    Calls Try.prog 62 #[v] w fun e w' => ∃ v', e = .returned v' ∧ Sl Value.string w'.heap.size w' v' l ∧ Kp none' w w' := by
  have hI' := hI
  obtain ⟨a, c, rfl, hlc, hcm, ha⟩ := hI'
  unfold maxLen at hcm
  have HA := hide ha
  clear ha
  cases a with
  | none =>
    have hl : l = [] := by
      cases l with
      | nil => rfl
      | cons x l => obtain ⟨_, _, e, _⟩ := HA.out 0 (by simp); cases e
    subst hl
    have hq : ∀ W : World, (binOp .eql 23 (.slice none 0 c) (.slice none 0 0)).run Try.prog W = .ok (.bool true) W := fun W => Lib.run_eql_slice_nil W _ _ none 0 c 0 0 Try.underlying23
    go_enter Try.func62, Try.ntmps62
    go_wp2
    go_ret
    exact ⟨_, rfl, Sl.nil _ _ _, Kp.refl _ _⟩
  | some a =>
    have hq : ∀ W : World, (binOp .eql 23 (.slice (some a) l.length c) (.slice none 0 0)).run Try.prog W = .ok (.bool false) W := fun W => Lib.run_eql_slice_nil W _ _ (some a) l.length c 0 0 Try.underlying23
    have hKa : Kp none' w (w.alloc (.cells #[] 9)) := Kp.alloc _ _ _
    have hO : Ow Value.string 9 (w.alloc (.cells #[] 9)) w.heap.size (.slice (some ⟨w.heap.size, 0, none⟩) 0 0) [] := World.ownsRow_made w #[] 0 (Nat.le_refl _) (Nat.zero_le _) (by simp)
    have hin := hI.keptN hKa
    obtain ⟨v2, w2, hq2, hO2, hg2, hv2⟩ := appS (w.alloc (.cells #[] 9)) w.heap.size _ (.slice (some a) l.length c) [] l hO (hin.src (fun _ => rfl) Try.underlying23) hKa.size (by simp; omega)
    have hk2 : Kp none' w w2 := hKa.trans (Kp.ofGrown hg2 (S := fun k => k = w.heap.size) (fun k hk _ => by cases hk; rfl)) (fun _ _ h => h) (fun k hk he => absurd hk (by omega))
    rw [List.nil_append] at hO2
    have HO2 := hide hO2
    clear hO2 hin hO hI
    go_enter Try.func62, Try.ntmps62
    go_wp2_with (first
      | (at_builtin; refine nwpList_app_at rfl (.tmp 5) (.tmp 6) 23 23 rfl _ _ rfl rfl hq2 ?_)
      | fail)
    go_ret
    exact ⟨_, rfl, HO2.out.sl, hk2⟩

set_option maxRecDepth 100000 in
set_option maxHeartbeats 600000 in
theorem growI (n : Nat) (w : World) (hn : n ≤ 1000000000) :
    Calls Try.prog 65 #[.slice none 0 0, .int .i64 (n : Int)] w fun e w' => ∃ v', e = .returned v' ∧ Ow (Value.int .i64) 3 w' w.heap.size v' [] ∧ Kp none' w w' := by
  by_cases h0 : n = 0
  · subst h0
    rw [show ((0 : Nat) : Int) = 0 from rfl]
    go_enter Try.func65, Try.ntmps65
    go_wp2
    go_ret
    exact ⟨_, rfl, Ow.nil _ _ _ _, Kp.refl _ _⟩
  · obtain ⟨c, w1, hr, hO, hK⟩ := zeros_row 24 3 _ 1 8 Try.underlying24 infoI rfl (by omega) (by omega) w n (by omega) hn
    have h1 : ¬ (n : Int) < 0 := by omega
    have h2 : (0 : Int) < (n : Int) := by omega
    have h3 : wrap64 (n : Int) = (n : Int) := by unfold wrap64; omega
    have HO := hide hO
    clear hO h0
    go_enter Try.func65, Try.ntmps65
    go_wp2_with (first
      | (at_builtin; refine nwpList_app_at rfl (.tmp 20) (.tmp 21) 24 3 rfl _ _ rfl rfl (by first | exact hr | (rw [h3]; exact hr)) ?_)
      | fail)
    go_ret
    exact ⟨_, rfl, HO.out, hK⟩

set_option maxRecDepth 100000 in
set_option maxHeartbeats 1000000 in
theorem concatI (v : Value) (vs : List Value) (ls : List (List Int)) (B B' : Nat) (w : World) (hV : Sl (fun x : Value => x) B w v vs) (hL : vs.length = ls.length) (hI : ∀ i (h : i < vs.length) (h' : i < ls.length), Sl (Value.int .i64) B' w vs[i] ls[i]) (hT : ls.flatten.length ≤ 100000000) :
    Calls Try.prog 44 #[v] w fun e w' => ∃ v', e = .returned v' ∧ Ow (Value.int .i64) 3 w' w.heap.size v' ls.flatten ∧ Kp none' w w' := by
  obtain ⟨a, c, rfl, hlc, hcm, ha⟩ := hV
  unfold maxLen at hcm
  have HA : Hid (∀ i (h : i < vs.length), ∃ b off, a = some ⟨b, off, none⟩ ∧ b < B ∧ w.cell? ⟨b, off + i, none⟩ = some (vs[i])) := ha
  have HI := hide hI
  have HL := hide hL
  have HG : Hid (∀ W : World, ∀ n : Nat, n ≤ 1000000000 → Calls Try.prog 65 #[.slice none 0 0, .int .i64 (n : Int)] W fun e w' => ∃ v', e = .returned v' ∧ Ow (Value.int .i64) 3 w' W.heap.size v' [] ∧ Kp none' W w') := fun W n hn => growI n W hn
  obtain ⟨m, Hm⟩ : ∃ m, Hid (vs.length = m) := ⟨_, rfl⟩
  rw [Hm.out] at hlc
  clear ha hI hL
  rw [Hm.out]
  go_enter Try.func44, Try.ntmps44
  go_wp2
  go_loopw [3, 5, 11] (fun t _ u wr => ∃ j q : Nat, j ≤ m ∧ u = .int .i64 j ∧ t = .int .i64 (q : Int) ∧ Hid ((ls.take j).flatten.length = q) ∧ w = wr) (fun _ _ u _ => m - (intOf u).toNat)
  case atStart => exact ⟨0, 0, Nat.zero_le _, rfl, rfl, rfl, rfl⟩
  case round =>
    obtain ⟨j, q, hj, rfl, rfl, HQ, rfl⟩ := hrel
    by_cases hlt : j < m
    · have hlv : j < vs.length := by rw [Hm.out]; exact hlt
      have hll : j < ls.length := by rw [← HL.out]; exact hlv
      obtain ⟨b, o, rfl, _, hc⟩ := HA.out j hlv
      obtain ⟨a', c', e, hx⟩ := HI.out j hlv hll
      clear hx
      rw [e] at hc
      have hlt' : (j : Int) < (m : Int) := by omega
      obtain ⟨r, HR⟩ : ∃ r : Nat, Hid ((ls.take (j + 1)).flatten.length = r) := ⟨_, rfl⟩
      have HS : Hid (q + ls[j].length = r ∧ r ≤ 100000000) := by
        have h1 := flat_take ls j hll
        have h2 := flat_take_le ls (j + 1)
        have h3 := congrArg List.length h1
        rw [List.length_append, HQ.out, HR.out] at h3
        rw [HR.out] at h2
        show _ ∧ _
        omega
      generalize ls[j].length = d at *
      have hw1 : wrap64 ((q : Int) + (d : Int)) = (r : Int) := by have := HS.out; unfold wrap64; omega
      have hw2 : IntKind.i64.wrap ((q : Int) + (d : Int)) = (r : Int) := by have := HS.out; rw [IntKind.wrap_i64]; omega
      have hr0 : ¬ (r : Int) < 0 := by omega
      clear HQ e
      go_wp2
      go_roundw
      case rel => exact ⟨j + 1, r, by omega, by go_num, by first | rfl | rw [hw1] | rw [hw2], HR, by first | rfl | trivial⟩
      case measure => simp [intOf]; omega
    · have hlt' : ¬ (j : Int) < (m : Int) := by omega
      have hjm : j = m := by omega
      have Hq : Hid (q ≤ 1000000000) := by
        have h1 := flat_take_le ls j
        rw [HQ.out] at h1
        show _ ≤ _
        omega
      clear HQ
      go_wp2_with (first
        | (go_at_call 65; refine (HG.out _ q Hq.out).mono ?_; rintro e w1 ⟨v1, rfl, hO1, hK1⟩)
        | fail)
      have HO1 := hide hO1
      clear hO1 hlt' hjm
      go_loopw [6, 8, 27] (fun t _ u wr => ∃ j : Nat, j ≤ m ∧ u = .int .i64 j ∧ Ow (Value.int .i64) 3 wr w.heap.size t ((ls.take j).flatten) ∧ Kp none' w wr) (fun _ _ u _ => m - (intOf u).toNat)
      case atStart => exact ⟨0, Nat.zero_le _, rfl, HO1.out, hK1⟩
      case round =>
        obtain ⟨j, hj, rfl, hO, hK⟩ := hrel
        by_cases hlt : j < m
        · have hlv : j < vs.length := by rw [Hm.out]; exact hlt
          have hll : j < ls.length := by rw [← HL.out]; exact hlv
          obtain ⟨b, o, rfl, _, hc'⟩ := HA.out j hlv
          have hc := hK.cell hc' (fun h => h)
          have hin := (HI.out j hlv hll).keptN hK
          have hlt' : (j : Int) < (m : Int) := by omega
          have hb : (ls.take j).flatten.length + ls[j].length ≤ 1000000000 := by
            have h1 := flat_take ls j hll
            have h2 := flat_take_le ls (j + 1)
            have h3 := congrArg List.length h1
            rw [List.length_append] at h3
            omega
          obtain ⟨v2, w2, hq2, hO2, hg2, hv2⟩ := appI _ w.heap.size u6 vs[j] _ ls[j] hO (hin.src (fun _ => rfl) Try.underlying24) hK.size hb
          have hk2 : Kp none' w w2 := hK.trans (Kp.ofGrown hg2 (S := fun k => u6.ownBlock = some k) (fun k hk _ => hk)) (fun _ _ h => h) (fun k hk he => absurd hk (by have := (hO.lt k he).1; omega))
          have HT2 : Hid (Ow (Value.int .i64) 3 w2 w.heap.size v2 ((ls.take (j + 1)).flatten)) := by
            show Ow (Value.int .i64) 3 _ _ _ _
            rw [flat_take ls j hll]
            exact hO2
          obtain ⟨a', c', e, _⟩ := hin
          rw [e] at hc hq2
          clear hb hO2 hc' e
          go_wp2_with (first
            | (at_builtin; refine nwpList_app_at rfl (.tmp 31) (.tmp 32) 24 24 rfl _ _ rfl rfl hq2 ?_)
            | fail)
          go_roundw
          case rel => exact ⟨j + 1, by omega, by go_num, HT2.out, hk2⟩
          case measure => simp [intOf]; omega
        · have hlt' : ¬ (j : Int) < (m : Int) := by omega
          have HF : Hid (Ow (Value.int .i64) 3 wr w.heap.size u6 ls.flatten) := by
            have e : ls.take j = ls := List.take_of_length_le (by have := HL.out; have := Hm.out; omega)
            rw [e] at hO
            exact hO
          go_wp2
          go_ret
          exact ⟨_, rfl, HF.out, hK⟩

set_option maxRecDepth 100000 in
set_option maxHeartbeats 600000 in
theorem cloneI (v : Value) (l : List Int) (B : Nat) (w : World) (hI : Sl (Value.int .i64) B w v l) (hT : l.length ≤ 100000000) :
    Calls Try.prog 63 #[v] w fun e w' => ∃ v', e = .returned v' ∧ Sl (Value.int .i64) w'.heap.size w' v' l ∧ Kp none' w w' := by
  have hI' := hI
  obtain ⟨a, c, rfl, hlc, hcm, ha⟩ := hI'
  unfold maxLen at hcm
  have HA := hide ha
  clear ha
  cases a with
  | none =>
    have hl : l = [] := by
      cases l with
      | nil => rfl
      | cons x l => obtain ⟨_, _, e, _⟩ := HA.out 0 (by simp); cases e
    subst hl
    have hq : ∀ W : World, (binOp .eql 24 (.slice none 0 c) (.slice none 0 0)).run Try.prog W = .ok (.bool true) W := fun W => Lib.run_eql_slice_nil W _ _ none 0 c 0 0 Try.underlying24
    go_enter Try.func63, Try.ntmps63
    go_wp2
    go_ret
    exact ⟨_, rfl, Sl.nil _ _ _, Kp.refl _ _⟩
  | some a =>
    have hq : ∀ W : World, (binOp .eql 24 (.slice (some a) l.length c) (.slice none 0 0)).run Try.prog W = .ok (.bool false) W := fun W => Lib.run_eql_slice_nil W _ _ (some a) l.length c 0 0 Try.underlying24
    have hKa : Kp none' w (w.alloc (.cells #[] 3)) := Kp.alloc _ _ _
    have hO : Ow (Value.int .i64) 3 (w.alloc (.cells #[] 3)) w.heap.size (.slice (some ⟨w.heap.size, 0, none⟩) 0 0) [] := World.ownsRow_made w #[] 0 (Nat.le_refl _) (Nat.zero_le _) (by simp)
    have hin := hI.keptN hKa
    obtain ⟨v2, w2, hq2, hO2, hg2, hv2⟩ := appI (w.alloc (.cells #[] 3)) w.heap.size _ (.slice (some a) l.length c) [] l hO (hin.src (fun _ => rfl) Try.underlying24) hKa.size (by simp; omega)
    have hk2 : Kp none' w w2 := hKa.trans (Kp.ofGrown hg2 (S := fun k => k = w.heap.size) (fun k hk _ => by cases hk; rfl)) (fun _ _ h => h) (fun k hk he => absurd hk (by omega))
    rw [List.nil_append] at hO2
    have HO2 := hide hO2
    clear hO2 hin hO hI
    go_enter Try.func63, Try.ntmps63
    go_wp2_with (first
      | (at_builtin; refine nwpList_app_at rfl (.tmp 5) (.tmp 6) 24 24 rfl _ _ rfl rfl hq2 ?_)
      | fail)
    go_ret
    exact ⟨_, rfl, HO2.out.sl, hk2⟩

end Go.Proofs.Ytjmkfkmdafjgnaa
