/- Contracts, over the turned program: copies of slices, in memory of their own. Conditions: those that each theorem states. -/
import Derived.Test.YtjmkfkmdafjgnaaNPh
namespace Go.Proofs.Ytjmkfkmdafjgnaa
open Go Go.RowKit
set_option linter.unusedVariables false
set_option maxRecDepth 100000 in
set_option maxHeartbeats 600000 in
theorem cloneOP (v : Value) (l : List Pr) (B : Nat) (w : World) (hI : Prs B w v l) (hT : l.length ≤ 100000000) :
    Calls Try.prog 61 #[v] w fun e w' => ∃ v', e = .returned v' ∧ OwP w' w.heap.size v' l ∧ Kp none' w w' := by
  have hI' := hI
  obtain ⟨a, c, rfl, hlc, hcm, ha⟩ := hI'
  unfold maxLen at hcm
  have HA := hide ha
  clear ha
  cases a with
  | none =>
    have hl : l = [] := by
      cases l with
      | nil => rfl
      | cons x l => obtain ⟨_, _, e, _⟩ := HA.out 0 (by simp); cases e
    subst hl
    have hq : ∀ W : World, (binOp .eql 22 (.slice none 0 c) (.slice none 0 0)).run Try.prog W = .ok (.bool true) W := fun W => Lib.run_eql_slice_nil W _ _ none 0 c 0 0 Try.underlying22
    go_enter Try.func61, Try.ntmps61
    go_wp2
    go_ret
    exact ⟨_, rfl, OwP.nil _ _, Kp.refl _ _⟩
  | some a =>
    have hq : ∀ W : World, (binOp .eql 22 (.slice (some a) l.length c) (.slice none 0 0)).run Try.prog W = .ok (.bool false) W := fun W => Lib.run_eql_slice_nil W _ _ (some a) l.length c 0 0 Try.underlying22
    have hKa : Kp none' w (w.alloc (.cells #[] 41)) := Kp.alloc _ _ _
    have hO : OwP (w.alloc (.cells #[] 41)) w.heap.size (.slice (some ⟨w.heap.size, 0, none⟩) 0 0) [] := World.ownsRow_made w #[] 0 (Nat.le_refl _) (Nat.zero_le _) (by simp)
    have hin := hI.keptN hKa
    obtain ⟨v2, w2, hq2, hO2, hg2, hv2⟩ := appP (w.alloc (.cells #[] 41)) w.heap.size _ (.slice (some a) l.length c) [] l hO hin.src hKa.size (by simp; omega)
    have hk2 : Kp none' w w2 := hKa.trans (Kp.ofGrown hg2 (S := fun k => k = w.heap.size) (fun k hk _ => by cases hk; rfl)) (fun _ _ h => h) (fun k hk he => absurd hk (by omega))
    rw [List.nil_append] at hO2
    have HO2 := hide hO2
    clear hO2 hin hO hI
    go_enter Try.func61, Try.ntmps61
    go_wp2_with (first
      | (at_builtin; refine nwpList_app_at rfl (.tmp 5) (.tmp 6) 22 22 rfl _ _ rfl rfl hq2 ?_)
      | fail)
    go_ret
    exact ⟨_, rfl, HO2.out, hk2⟩
set_option maxRecDepth 100000 in
set_option maxHeartbeats 600000 in
theorem cloneOS (v : Value) (l : List ByteArray) (B : Nat) (w : World) (hI : Sl Value.string B w v l) (hT : l.length ≤ 100000000) :
    Calls Try.prog 62 #[v] w fun e w' => ∃ v', e = .returned v' ∧ Ow Value.string 9 w' w.heap.size v' l ∧ Kp none' w w' := by
  have hI' := hI
  obtain ⟨a, c, rfl, hlc, hcm, ha⟩ := hI'
  unfold maxLen at hcm
  have HA := hide ha
  clear ha
  cases a with
  | none =>
    have hl : l = [] := by
      cases l with
      | nil => rfl
      | cons x l => obtain ⟨_, _, e, _⟩ := HA.out 0 (by simp); cases e
    subst hl
    have hq : ∀ W : World, (binOp .eql 23 (.slice none 0 c) (.slice none 0 0)).run Try.prog W = .ok (.bool true) W := fun W => Lib.run_eql_slice_nil W _ _ none 0 c 0 0 Try.underlying23
    go_enter Try.func62, Try.ntmps62
    go_wp2
    go_ret
    exact ⟨_, rfl, Ow.nil _ _ _ _, Kp.refl _ _⟩
  | some a =>
    have hq : ∀ W : World, (binOp .eql 23 (.slice (some a) l.length c) (.slice none 0 0)).run Try.prog W = .ok (.bool false) W := fun W => Lib.run_eql_slice_nil W _ _ (some a) l.length c 0 0 Try.underlying23
    have hKa : Kp none' w (w.alloc (.cells #[] 9)) := Kp.alloc _ _ _
    have hO : Ow Value.string 9 (w.alloc (.cells #[] 9)) w.heap.size (.slice (some ⟨w.heap.size, 0, none⟩) 0 0) [] := World.ownsRow_made w #[] 0 (Nat.le_refl _) (Nat.zero_le _) (by simp)
    have hin := hI.keptN hKa
    obtain ⟨v2, w2, hq2, hO2, hg2, hv2⟩ := appS (w.alloc (.cells #[] 9)) w.heap.size _ (.slice (some a) l.length c) [] l hO (hin.src (fun _ => rfl) Try.underlying23) hKa.size (by simp; omega)
    have hk2 : Kp none' w w2 := hKa.trans (Kp.ofGrown hg2 (S := fun k => k = w.heap.size) (fun k hk _ => by cases hk; rfl)) (fun _ _ h => h) (fun k hk he => absurd hk (by omega))
    rw [List.nil_append] at hO2
    have HO2 := hide hO2
    clear hO2 hin hO hI
    go_enter Try.func62, Try.ntmps62
    go_wp2_with (first
      | (at_builtin; refine nwpList_app_at rfl (.tmp 5) (.tmp 6) 23 23 rfl _ _ rfl rfl hq2 ?_)
      | fail)
    go_ret
    exact ⟨_, rfl, HO2.out, hk2⟩
set_option maxRecDepth 100000 in
set_option maxHeartbeats 600000 in
theorem cloneOI (v : Value) (l : List Int) (B : Nat) (w : World) (hI : Sl (Value.int .i64) B w v l) (hT : l.length ≤ 100000000) :
    Calls Try.prog 63 #[v] w fun e w' => ∃ v', e = .returned v' ∧ Ow (Value.int .i64) 3 w' w.heap.size v' l ∧ Kp none' w w' := by
  have hI' := hI
  obtain ⟨a, c, rfl, hlc, hcm, ha⟩ := hI'
  unfold maxLen at hcm
  have HA := hide ha
  clear ha
  cases a with
  | none =>
    have hl : l = [] := by
      cases l with
      | nil => rfl
      | cons x l => obtain ⟨_, _, e, _⟩ := HA.out 0 (by simp); cases e
    subst hl
    have hq : ∀ W : World, (binOp .eql 24 (.slice none 0 c) (.slice none 0 0)).run Try.prog W = .ok (.bool true) W := fun W => Lib.run_eql_slice_nil W _ _ none 0 c 0 0 Try.underlying24
    go_enter Try.func63, Try.ntmps63
    go_wp2
    go_ret
    exact ⟨_, rfl, Ow.nil _ _ _ _, Kp.refl _ _⟩
  | some a =>
    have hq : ∀ W : World, (binOp .eql 24 (.slice (some a) l.length c) (.slice none 0 0)).run Try.prog W = .ok (.bool false) W := fun W => Lib.run_eql_slice_nil W _ _ (some a) l.length c 0 0 Try.underlying24
    have hKa : Kp none' w (w.alloc (.cells #[] 3)) := Kp.alloc _ _ _
    have hO : Ow (Value.int .i64) 3 (w.alloc (.cells #[] 3)) w.heap.size (.slice (some ⟨w.heap.size, 0, none⟩) 0 0) [] := World.ownsRow_made w #[] 0 (Nat.le_refl _) (Nat.zero_le _) (by simp)
    have hin := hI.keptN hKa
    obtain ⟨v2, w2, hq2, hO2, hg2, hv2⟩ := appI (w.alloc (.cells #[] 3)) w.heap.size _ (.slice (some a) l.length c) [] l hO (hin.src (fun _ => rfl) Try.underlying24) hKa.size (by simp; omega)
    have hk2 : Kp none' w w2 := hKa.trans (Kp.ofGrown hg2 (S := fun k => k = w.heap.size) (fun k hk _ => by cases hk; rfl)) (fun _ _ h => h) (fun k hk he => absurd hk (by omega))
    rw [List.nil_append] at hO2
    have HO2 := hide hO2
    clear hO2 hin hO hI
    go_enter Try.func63, Try.ntmps63
    go_wp2_with (first
      | (at_builtin; refine nwpList_app_at rfl (.tmp 5) (.tmp 6) 24 24 rfl _ _ rfl rfl hq2 ?_)
      | fail)
    go_ret
    exact ⟨_, rfl, HO2.out, hk2⟩

end Go.Proofs.Ytjmkfkmdafjgnaa
