/- Contracts, over the turned program: a pager's Size, Commits, has, hasAll; pagesOf. Conditions: those that each theorem states. -/
import Derived.Test.YtgfijbbibafdfaaGreatPDefs
import Derived.Test.YtgfijbbibafdfaaGreatURead
namespace Go.Proofs.YtgfijbbibafdfaaGreat
open Go.RowKit
set_option linter.unusedVariables false

set_option maxHeartbeats 400000 in
theorem psize_nil (w : World) : Calls Tryz.prog 22 #[.pointer none] w fun e w' => e = .returned (.int .i64 0) ∧ w' = w := by
  go_enter Tryz.func22, Tryz.ntmps22
  go_wp2
  go_ret
  exact ⟨rfl, rfl⟩
set_option maxHeartbeats 400000 in
theorem pcommits_nil (w : World) : Calls Tryz.prog 21 #[.pointer none] w fun e w' => e = .returned (.int .i64 0) ∧ w' = w := by
  go_enter Tryz.func21, Tryz.ntmps21
  go_wp2
  go_ret
  exact ⟨rfl, rfl⟩
set_option maxHeartbeats 400000 in
theorem psize_any (g : Nat) (n : Int) (w : World) (h1 : w.cell? ⟨g, 1, none⟩ = some (.int .i64 n)) : Calls Tryz.prog 22 #[.pointer (some ⟨g, 0, none⟩)] w fun e w' => e = .returned (.int .i64 n) ∧ w' = w := by
  go_enter Tryz.func22, Tryz.ntmps22
  go_wp2
  go_ret
  exact ⟨rfl, rfl⟩
set_option maxHeartbeats 400000 in
theorem pcommits_any (g : Nat) (n : Int) (w : World) (h1 : w.cell? ⟨g, 2, none⟩ = some (.int .i64 n)) : Calls Tryz.prog 21 #[.pointer (some ⟨g, 0, none⟩)] w fun e w' => e = .returned (.int .i64 n) ∧ w' = w := by
  go_enter Tryz.func21, Tryz.ntmps21
  go_wp2
  go_ret
  exact ⟨rfl, rfl⟩
set_option maxHeartbeats 400000 in
theorem phas_any (g n : Nat) (i : Int) (w : World) (h1 : w.cell? ⟨g, 1, none⟩ = some (.int .i64 n)) : Calls Tryz.prog 41 #[.pointer (some ⟨g, 0, none⟩), .int .i64 i] w fun e w' => e = .returned (.bool (hasB n i)) ∧ w' = w := by
  by_cases h0 : 0 ≤ i
  all_goals
    go_enter Tryz.func41, Tryz.ntmps41
    go_wp2_with (go_at_call 22; refine (psize_any _ _ _ h1).mono ?_; rintro e w' ⟨rfl, rfl⟩)
    go_ret
    exact ⟨by simp [hasB, h0] <;> omega, rfl⟩
/-- All of them are there. -/
def allB (n : Nat) (l : List Int) : Bool := l.all (hasB n)
set_option maxRecDepth 100000 in
set_option maxHeartbeats 400000 in
theorem hasAll_any (g n : Nat) (v : Value) (l : List Int) (B : Nat) (w : World) (h1 : w.cell? ⟨g, 1, none⟩ = some (.int .i64 n)) (hS : Sl (Value.int .i64) B w v l) (hl : l.length ≤ 1000000) :
    Calls Tryz.prog 47 #[.pointer (some ⟨g, 0, none⟩), v] w fun e w' => e = .returned (.bool (allB n l)) ∧ Kp none' w w' := by
  obtain ⟨a, c, rfl, _, _, ha⟩ := hS
  go_enter Tryz.func47, Tryz.ntmps47
  go_wp2
  go_loopw [9] (fun t wr => ∃ k : Nat, k ≤ l.length ∧ t = .int .i64 k ∧ (∀ z ∈ l.take k, hasB n z = true) ∧ Kp none' w wr) (fun t _ => l.length - (intOf t).toNat)
  case atStart => exact ⟨0, Nat.zero_le _, rfl, by simp, Kp.refl _ _⟩
  case round =>
    obtain ⟨k, hk, rfl, hA, hK⟩ := hrel
    have h1r := hK.cell h1 (fun h => h)
    by_cases hlt : k < l.length
    · obtain ⟨b, o, rfl, _, hc'⟩ := ha k hlt
      have hc := hK.cell hc' (fun h => h)
      clear hc'
      have hk' : (k : Int) < (l.length : Int) := by omega
      have hm : l[k] ∈ l := List.getElem_mem hlt
      have HT : Hid (l.take (k + 1) = l.take k ++ [l[k]]) := List.take_succ_eq_append_getElem hlt
      generalize l[k] = x at *
      by_cases hx : hasB n x = true
      · go_wp2_with (go_at_call 41; refine (phas_any _ _ _ _ h1r).mono ?_; rintro e w' ⟨rfl, rfl⟩; rw [hx])
        go_roundw
        case rel =>
          refine ⟨k + 1, by omega, by go_num, ?_, hK⟩
          rw [HT.out]
          intro z hz
          rcases List.mem_append.1 hz with hz | hz
          · exact hA z hz
          · rw [List.mem_singleton.1 hz]; exact hx
        case measure => simp [intOf]; omega
      · have hx' : hasB n x = false := by simpa using hx
        have hF : allB n l = false := by
          unfold allB
          rw [List.all_eq_false]
          exact ⟨x, hm, by simp [hx']⟩
        go_wp2_with (go_at_call 41; refine (phas_any _ _ _ _ h1r).mono ?_; rintro e w' ⟨rfl, rfl⟩; rw [hx'])
        go_ret
        exact ⟨by rw [hF]; rfl, hK⟩
    · obtain rfl : k = l.length := by omega
      have hT : allB n l = true := by
        unfold allB
        rw [List.all_eq_true]
        rw [List.take_length] at hA
        exact hA
      go_wp2
      go_ret
      exact ⟨by rw [hT]; rfl, hK⟩

/-- A change in a variable of its own. -/
theorem chg_var (w : World) (x : Chg) (t : TypeId) : (w.alloc (.cells #[.int .i64 x.page, .string x.data] t)).cell? ⟨w.heap.size, 0, none⟩ = some (.int .i64 x.page) ∧ (w.alloc (.cells #[.int .i64 x.page, .string x.data] t)).cell? ⟨w.heap.size, 1, none⟩ = some (.string x.data) := by
  have hb : (w.alloc (.cells #[.int .i64 x.page, .string x.data] t)).heap[w.heap.size]? = some (.cells #[.int .i64 x.page, .string x.data] t (0, 0)) := heap_alloc_new w _
  exact ⟨by rw [cell_of_row _ _ _ _ _ _ hb]; rfl, by rw [cell_of_row _ _ _ _ _ _ hb]; rfl⟩
set_option maxRecDepth 100000 in
set_option maxHeartbeats 400000 in
theorem pagesOf_any (v : Value) (l : List Chg) (S : Nat → Prop) (w : World) (hS : Chs S w v l) (hl : l.length ≤ 1000000) :
    Calls Tryz.prog 49 #[v] w fun e w' => ∃ u, e = .returned u ∧ Ow (Value.int .i64) 3 w' w.heap.size u (l.map Chg.page) ∧ Kp none' w w' := by
  obtain ⟨a, c, rfl, _, _, ha'⟩ := hS
  have ha := hide ha'
  clear ha'
  obtain ⟨wa, hmk, hO, hka⟩ := make_ints w l.length hl
  obtain ⟨B, HB⟩ : ∃ B, Hid (w.heap.size = B) := ⟨_, rfl⟩
  rw [HB.out] at hmk hO
  go_enter Tryz.func49, Tryz.ntmps49
  go_upto_region 2 with (at_make; refine wpList_make_at rfl (.tmp 7) (.tmp 7) 38 rfl _ _ rfl rfl hmk ?_)
  clear hmk
  go_wp2
  go_loopw [11] (fun t wr => ∃ k : Nat, k ≤ l.length ∧ t = .int .i64 k ∧ Ow (Value.int .i64) 3 wr B (.slice (some ⟨B, 0, none⟩) l.length l.length) ((l.map Chg.page).take k ++ List.replicate (l.length - k) 0) ∧ Kp none' w wr) (fun t _ => l.length - (intOf t).toNat)
  case atStart => exact ⟨0, Nat.zero_le _, rfl, by simpa using hO, hka⟩
  case round =>
    obtain ⟨k, hk, rfl, hO, hK⟩ := hrel
    by_cases hlt : k < l.length
    · obtain ⟨b, o, rfl, _, hbl, hc0, hc1⟩ := ha.out k hlt
      have hk' : (k : Int) < (l.length : Int) := by omega
      have d0 := hK.cell hc0 (fun h => h)
      have d1 := hK.cell hc1 (fun h => h)
      have ht : (l.map Chg.page).take (k + 1) = (l.map Chg.page).take k ++ [l[k].page] := by rw [List.take_succ_eq_append_getElem (by simpa using hlt)]; simp
      have hlen : ((l.map Chg.page).take k).length = k := by simp; omega
      obtain ⟨m, hm⟩ : ∃ m, l.length - k = m + 1 := ⟨l.length - k - 1, by omega⟩
      have hm2 : l.length - (k + 1) = m := by omega
      rw [hm] at hO
      have hka := Kp.alloc none' wr (.cells #[.int .i64 l[k].page, .string l[k].data] 56)
      have hv := chg_var wr l[k] 56
      generalize l[k] = x at *
      obtain ⟨wb, Hb⟩ : ∃ wb, Hid (wr.alloc (.cells #[.int .i64 x.page, .string x.data] 56) = wb) := ⟨_, rfl⟩
      have HO := hide hO
      clear hO ha
      go_upto_region 5 with fail
      rw [Hb.out]
      rw [Hb.out] at hv hka
      have hO := HO.out.keptN hka
      have hcl := hO.cellAt k (by rw [List.length_append, hlen, List.length_replicate]; omega)
      have q1 := hcl.1
      have q2 := hcl.2
      have hst := hO.stored k x.page
      have e1 := set_next ((l.map Chg.page).take k) m x.page
      rw [hlen] at e1
      rw [e1, ← ht] at hst
      have v0 := hv.1
      generalize wr.heap.size = gg at *
      have HST := hide hst
      clear hcl e1 hst hO hm HO hv d0 d1 hc0 hc1
      go_wp2
      go_roundw
      case rel => exact ⟨k + 1, by omega, by go_num, by rw [hm2]; exact HST.out.1, (hK.then hka).trans (Kp.ofGrown HST.out.2 (S := only B) (fun k he _ => by cases he; rfl)) (fun _ _ h => h) (fun k hk he => absurd hk (by have := HB.out; unfold only at he; omega))⟩
      case measure => simp [intOf]; omega
    · obtain rfl : k = l.length := by omega
      go_wp2
      go_ret
      refine ⟨_, rfl, ?_, hK⟩
      have : (l.map Chg.page).take l.length ++ List.replicate (l.length - l.length) 0 = l.map Chg.page := by rw [Nat.sub_self, List.take_of_length_le (by simp)]; simp
      rw [this] at hO
      exact hO.mono (by have := HB.out; omega)

end Go.Proofs.YtgfijbbibafdfaaGreat
