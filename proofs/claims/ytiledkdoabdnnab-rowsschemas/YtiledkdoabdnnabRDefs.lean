/- Schemas as they lie in memory, which may be, and contracts, over the turned program: rows.Right and its parts answer so. No conditions but those that each theorem states. -/
import Derived.Test.YtiledkdoabdnnabKWrite
import Derived.Test.YtiledkdoabdnnabKRead
namespace Go.Proofs.Ytiledkdoabdnnab
open Go.RowKit
set_option linter.unusedVariables false

/-- The slice value v reads as the kinds ks. -/
def Kd (w : World) (v : Value) (ks : List Int) : Prop :=
  ∃ a c, v = .slice a ks.length c ∧ ks.length ≤ c ∧ c ≤ maxLen ∧ ∀ i (h : i < ks.length), ∃ b off, a = some ⟨b, off, none⟩ ∧ b < w.heap.size ∧ w.cell? ⟨b, off + i, none⟩ = some (.int .i64 ks[i])
theorem Kd.nil (w : World) : Kd w (.slice none 0 0) [] := ⟨none, 0, rfl, Nat.le_refl _, Nat.zero_le _, fun i h => absurd h (by simp)⟩
theorem Kd.kept {w w' : World} {v : Value} {l : List Int} {row : Option Nat} (h : Kd w v l) (hg : w.grownBy w' row) (hne : v.ownBlock = none ∨ v.ownBlock ≠ row) : Kd w' v l := by
  obtain ⟨a, c, rfl, h1, h2, h3⟩ := h
  refine ⟨a, c, rfl, h1, h2, fun i hi => ?_⟩
  obtain ⟨b, off, rfl, hb, c0⟩ := h3 i hi
  have hs := hg.block b hb (by
    rcases hne with hne | hne
    · simp [Value.ownBlock] at hne
    · simpa [Value.ownBlock] using hne)
  exact ⟨b, off, rfl, Nat.lt_of_lt_of_le hb hg.size, by rw [cell_same hs]; exact c0⟩
theorem Kd.keptN {w w' : World} {v : Value} {l : List Int} (h : Kd w v l) (hg : w.grownBy w' none) : Kd w' v l := h.kept hg (by cases v.ownBlock <;> simp)

/-- A schema's value: its kinds lie at kv. -/
def sval (kv : Value) (u x : Int) : Value := .agg #[kv, .int .i64 u, .int .i64 x]
def okK (k : Int) : Bool := k == 1 || k == 2
/-- Which schemas may be. -/
def rightK (ks : List Int) : Bool := decide (1 ≤ ks.length ∧ ks.length ≤ 4) && ks.all okK
def rightC (ks : List Int) (n : Int) : Bool := decide (0 ≤ n ∧ n < ks.length)
def rightX (ks : List Int) (x : Int) : Bool := rightC ks x && (x == 0 || ks[x.toNat]? == some 1)
def rightS (ks : List Int) (u x : Int) : Bool := rightK ks && rightC ks u && rightX ks x
theorem rightK_len (ks : List Int) (h : rightK ks = true) : 1 ≤ ks.length ∧ ks.length ≤ 4 := by
  unfold rightK at h
  rw [Bool.and_eq_true] at h
  exact of_decide_eq_true h.1
theorem rightS_len (ks : List Int) (u x : Int) (h : rightS ks u x = true) : 1 ≤ ks.length ∧ ks.length ≤ 4 := by
  unfold rightS at h
  simp only [Bool.and_eq_true] at h
  exact rightK_len ks h.1.1

set_option maxRecDepth 100000 in
set_option maxHeartbeats 400000 in
theorem rkinds_any (v : Value) (ks : List Int) (w : World) (h : Kd w v ks) :
    Calls Try.prog 27 #[v] w fun e w' => e = .returned (.bool (rightK ks)) ∧ w' = w := by
  obtain ⟨a, c, rfl, hc, hm, hL⟩ := h
  have hlm : ks.length ≤ maxLen := Nat.le_trans hc hm
  unfold maxLen at hlm
  clear hc hm
  by_cases h1 : (ks.length : Int) < 1
  · have e : rightK ks = false := by unfold rightK; rw [decide_eq_false (by omega)]; rfl
    rw [e]
    go_enter Try.func27, Try.ntmps27
    go_wp2
    go_ret
    exact ⟨rfl, rfl⟩
  · by_cases h4 : 4 < (ks.length : Int)
    · have e : rightK ks = false := by unfold rightK; rw [decide_eq_false (by omega)]; rfl
      rw [e]
      go_enter Try.func27, Try.ntmps27
      go_wp2
      go_ret
      exact ⟨rfl, rfl⟩
    · have He : Hid (rightK ks = ks.all okK) := by show _ = _; unfold rightK; rw [decide_eq_true (by omega)]; rfl
      go_enter Try.func27, Try.ntmps27
      go_wp2_with fail
      go_loop [15] (fun i => ∃ j : Nat, j ≤ ks.length ∧ i = .int .i64 j ∧ Hid ((ks.take j).all okK = true)) (fun i => ks.length - (intOf i).toNat)
      case atStart => exact ⟨0, Nat.zero_le _, rfl, by show _ = _; simp⟩
      case round =>
        obtain ⟨j, hj, rfl, Hok⟩ := hrel
        by_cases hlt : j < ks.length
        · obtain ⟨b, off, rfl, hb, c0⟩ := hL j hlt
          have hji : (j : Int) < (ks.length : Int) := by omega
          have Hall : Hid ((ks.take (j + 1)).all okK = okK ks[j]) := by
            show _ = _
            rw [List.take_succ_eq_append_getElem hlt, List.all_append, Hok.out]
            simp
          have Hbad : Hid (okK ks[j] = false → ks.all okK = false) := by
            intro h
            rw [List.all_eq_false]
            exact ⟨ks[j], List.getElem_mem hlt, by simp [h]⟩
          generalize ks[j] = k at *
          clear hL
          by_cases k1 : k = 1
          · subst k1
            go_wp2
            go_round
            case rel => exact ⟨j + 1, by omega, by go_num, by show _ = _; rw [Hall.out]; rfl⟩
            case measure => simp [intOf]; omega
          · by_cases k2 : k = 2
            · subst k2
              go_wp2
              go_round
              case rel => exact ⟨j + 1, by omega, by go_num, by show _ = _; rw [Hall.out]; rfl⟩
              case measure => simp [intOf]; omega
            · have e1 : (k != 1) = true := by simp [k1]
              have e2 : (k != 2) = true := by simp [k2]
              go_wp2
              go_ret
              rw [He.out, Hbad.out (by simp [okK, k1, k2])]
              exact ⟨rfl, rfl⟩
        · have hji : ¬ (j : Int) < (ks.length : Int) := by omega
          have ej : ks.take j = ks := List.take_of_length_le (by omega)
          rw [ej] at Hok
          go_wp2
          go_ret
          rw [He.out, Hok.out]
          exact ⟨rfl, rfl⟩

set_option maxRecDepth 100000 in
set_option maxHeartbeats 400000 in
theorem rcol_any (v : Value) (ks : List Int) (u x n : Int) (w : World) (h : Kd w v ks) :
    Calls Try.prog 28 #[sval v u x, .int .i64 n] w fun e w' => e = .returned (.bool (rightC ks n)) ∧ w.grownBy w' none := by
  obtain ⟨a, c, rfl, hc, hm, hL⟩ := h
  have hlm : ks.length ≤ maxLen := Nat.le_trans hc hm
  unfold maxLen at hlm
  unfold sval rightC
  clear hc hm hL
  by_cases h0 : 0 ≤ n
  · by_cases h1 : n < (ks.length : Int)
    · rw [decide_eq_true ⟨h0, h1⟩]
      go_enter Try.func28, Try.ntmps28
      go_wp2
      go_ret
      exact ⟨rfl, World.grownBy_alloc _ _ _⟩
    · rw [decide_eq_false (fun h => h1 h.2)]
      go_enter Try.func28, Try.ntmps28
      go_wp2
      go_ret
      exact ⟨rfl, World.grownBy_alloc _ _ _⟩
  · rw [decide_eq_false (fun h => h0 h.1)]
    go_enter Try.func28, Try.ntmps28
    go_wp2
    go_ret
    exact ⟨rfl, World.grownBy_alloc _ _ _⟩

/-- A schema in a block of its own. -/
def Sb (w : World) (b : Nat) (kv : Value) (u x : Int) : Prop := w.heap[b]? = some (.cells #[kv, .int .i64 u, .int .i64 x] 24 (0, 0))
theorem Sb.c0 {w : World} {b : Nat} {kv : Value} {u x : Int} (h : Sb w b kv u x) : w.cell? ⟨b, 0, none⟩ = some kv := by rw [cell_of_row w b 0 _ 24 (0, 0) h]; rfl
theorem Sb.c1 {w : World} {b : Nat} {kv : Value} {u x : Int} (h : Sb w b kv u x) : w.cell? ⟨b, 1, none⟩ = some (.int .i64 u) := by rw [cell_of_row w b 1 _ 24 (0, 0) h]; rfl
theorem Sb.c2 {w : World} {b : Nat} {kv : Value} {u x : Int} (h : Sb w b kv u x) : w.cell? ⟨b, 2, none⟩ = some (.int .i64 x) := by rw [cell_of_row w b 2 _ 24 (0, 0) h]; rfl
theorem Sb.lt {w : World} {b : Nat} {kv : Value} {u x : Int} (h : Sb w b kv u x) : b < w.heap.size := (Array.getElem?_eq_some_iff.1 h).1
theorem Sb.kept {w w' : World} {b : Nat} {kv : Value} {u x : Int} {row : Option Nat} (h : Sb w b kv u x) (hg : w.grownBy w' row) (hne : some b ≠ row) : Sb w' b kv u x := by
  unfold Sb
  rw [hg.block b h.lt hne]
  exact h
theorem Sb.keptN {w w' : World} {b : Nat} {kv : Value} {u x : Int} (h : Sb w b kv u x) (hg : w.grownBy w' none) : Sb w' b kv u x := h.kept hg (by simp)
theorem Sb.new (w : World) (kv : Value) (u x : Int) : Sb (w.alloc (.cells #[kv, .int .i64 u, .int .i64 x] 24)) w.heap.size kv u x := heap_alloc_new w _

set_option maxRecDepth 100000 in
set_option maxHeartbeats 400000 in
theorem rindex_any (v : Value) (ks : List Int) (u x : Int) (w : World) (h : Kd w v ks) :
    Calls Try.prog 29 #[sval v u x] w fun e w' => e = .returned (.bool (rightX ks x)) ∧ w.grownBy w' none := by
  have hga := World.grownBy_alloc w (.cells #[v, .int .i64 u, .int .i64 x] 24) none
  have hS := Sb.new w v u x
  have hK := h.keptN hga
  unfold sval
  by_cases hc : rightC ks x = true
  · have hb := of_decide_eq_true hc
    have hx : Hid (rightX ks x = (x == 0 || ks[x.toNat]? == some 1)) := by show _ = _; unfold rightX; rw [hc]; rfl
    by_cases h0 : x = 0
    · subst h0
      go_enter Try.func29, Try.ntmps29
      go_wp2_with (go_at_call 28; refine (rcol_any v ks u 0 0 _ hK).mono ?_; rintro e w1 ⟨rfl, hg1⟩; rw [hc]; have c2 := (hS.keptN hg1).c2)
      go_ret
      exact ⟨by rw [hx.out]; rfl, grown_up hga hg1⟩
    · have e0 : (x == 0) = false := by simp [h0]
      obtain ⟨n, rfl⟩ : ∃ n : Nat, x = (n : Int) := ⟨x.toNat, by omega⟩
      have hn : n < ks.length := by omega
      obtain ⟨a, c, rfl, hcc, hm, hL⟩ := hK
      have hlm : ks.length ≤ maxLen := Nat.le_trans hcc hm
      unfold maxLen at hlm
      obtain ⟨b, off, rfl, hbl, k0⟩ := hL n hn
      have hx2 : Hid (rightX ks (n : Int) = (ks[n] == 1)) := by
        show _ = _
        rw [hx.out, e0, Int.toNat_natCast, List.getElem?_eq_getElem hn]
        simp
      generalize ks[n] = k at *
      have hK2 : Kd w (.slice (some ⟨b, off, none⟩) ks.length c) ks := h
      clear hL hx hb
      by_cases k1 : k = 1
      · subst k1
        go_enter Try.func29, Try.ntmps29
        go_wp2_with (go_at_call 28; refine (rcol_any _ ks u n n _ (hK2.keptN hga)).mono ?_; rintro e w1 ⟨rfl, hg1⟩; rw [hc]; have c2 := (hS.keptN hg1).c2; have c0 := (hS.keptN hg1).c0; rw [← cell_same (hg1.block b hbl (by simp))] at k0)
        go_ret
        exact ⟨by rw [hx2.out]; rfl, grown_up hga hg1⟩
      · have e1 : (k == 1) = false := by simp [k1]
        go_enter Try.func29, Try.ntmps29
        go_wp2_with (go_at_call 28; refine (rcol_any _ ks u n n _ (hK2.keptN hga)).mono ?_; rintro e w1 ⟨rfl, hg1⟩; rw [hc]; have c2 := (hS.keptN hg1).c2; have c0 := (hS.keptN hg1).c0; rw [← cell_same (hg1.block b hbl (by simp))] at k0)
        go_ret
        exact ⟨by rw [hx2.out, e1]; rfl, grown_up hga hg1⟩
  · have hc' : rightC ks x = false := by simpa using hc
    have hx : Hid (rightX ks x = false) := by show _ = _; unfold rightX; rw [hc']; rfl
    go_enter Try.func29, Try.ntmps29
    go_wp2_with (go_at_call 28; refine (rcol_any v ks u x x _ hK).mono ?_; rintro e w1 ⟨rfl, hg1⟩; rw [hc'])
    go_ret
    exact ⟨by rw [hx.out]; rfl, grown_up hga hg1⟩

set_option maxRecDepth 100000 in
set_option maxHeartbeats 400000 in
theorem rightS_any (v : Value) (ks : List Int) (u x : Int) (w : World) (h : Kd w v ks) :
    Calls Try.prog 13 #[sval v u x] w fun e w' => e = .returned (.bool (rightS ks u x)) ∧ w.grownBy w' none := by
  have hga := World.grownBy_alloc w (.cells #[v, .int .i64 u, .int .i64 x] 24) none
  have hS := Sb.new w v u x
  have hK := h.keptN hga
  have c0 := hS.c0
  have c1 := hS.c1
  have c2 := hS.c2
  unfold sval rightS
  by_cases h1 : rightK ks = true
  · by_cases h2 : rightC ks u = true
    · go_enter Try.func13, Try.ntmps13
      go_wp2_with (first
        | (go_at_call 27; refine (rkinds_any v ks _ hK).mono ?_; rintro e w1 ⟨rfl, rfl⟩; rw [h1])
        | (go_at_call 28; refine (rcol_any v ks u x u _ hK).mono ?_; rintro e w2 ⟨rfl, hg2⟩; rw [h2]; have d0 := (hS.keptN hg2).c0; have d1 := (hS.keptN hg2).c1; have d2 := (hS.keptN hg2).c2)
        | (go_at_call 29; refine (rindex_any v ks u x _ (hK.keptN hg2)).mono ?_; rintro e w3 ⟨rfl, hg3⟩))
      go_ret
      exact ⟨by rw [h1, h2]; rfl, grown_up (grown_up hga hg2) hg3⟩
    · have h2' : rightC ks u = false := by simpa using h2
      go_enter Try.func13, Try.ntmps13
      go_wp2_with (first
        | (go_at_call 27; refine (rkinds_any v ks _ hK).mono ?_; rintro e w1 ⟨rfl, rfl⟩; rw [h1])
        | (go_at_call 28; refine (rcol_any v ks u x u _ hK).mono ?_; rintro e w2 ⟨rfl, hg2⟩; rw [h2']))
      go_ret
      exact ⟨by rw [h1, h2']; rfl, grown_up hga hg2⟩
  · have h1' : rightK ks = false := by simpa using h1
    go_enter Try.func13, Try.ntmps13
    go_wp2_with (go_at_call 27; refine (rkinds_any v ks _ hK).mono ?_; rintro e w1 ⟨rfl, rfl⟩; rw [h1'])
    go_ret
    exact ⟨by rw [h1']; rfl, hga⟩

end Go.Proofs.Ytiledkdoabdnnab
