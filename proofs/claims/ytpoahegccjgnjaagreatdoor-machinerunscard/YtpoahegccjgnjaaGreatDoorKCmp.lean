/- Contracts, over the turned program: keys.Compare and the reference's Compare tell how tuples of whatever values are ordered, in the same plain words. Conditions: those that each theorem states. -/
import Derived.Test.YtpoahegccjgnjaaGreatDoorVals
import Derived.Test.YtpoahegccjgnjaaGreatDoorKRefRead
import Derived.Lib.Bytealg
import Derived.WalkLawsBesides
import Derived.Deep.CutRange
import Derived.Deep.RegionWith
import Derived.Deep.RegionHeldLaw
import Derived.Deep.QuietTactic
import Derived.BigQuiet
namespace Go.Proofs.YtpoahegccjgnjaaGreatDoor
open Go.RowKit
open Go.Lib (compareBytes)
set_option linter.unusedVariables false

def cmpI (a b : Int) : Int := if a < b then -1 else if b < a then 1 else 0
def orI (a b c : Int) : Int := if a ≠ 0 then a else if b ≠ 0 then b else c
def cmpV (x y : V) : Int := orI (cmpI x.k y.k) (cmpI x.n y.n) (compareBytes x.s.data.toList y.s.data.toList)
def cmpL : List V → List V → Int
  | [], [] => 0
  | [], _ :: _ => -1
  | _ :: _, [] => 1
  | x :: a, y :: b => if cmpV x y ≠ 0 then cmpV x y else cmpL a b

set_option maxHeartbeats 400000 in
theorem cmpKind_any (a b : Int) (w : World) : Calls Tryz.prog 94 #[.int .i64 a, .int .i64 b] w fun e w' => e = .returned (.int .i64 (cmpI a b)) ∧ w' = w := by
  by_cases h1 : a < b
  · have e : cmpI a b = -1 := by simp [cmpI, h1]
    rw [e]; clear e
    go_enter Tryz.func94, Tryz.ntmps94
    go_wp2
    go_ret
    exact ⟨rfl, rfl⟩
  · by_cases h2 : b < a
    · have e : cmpI a b = 1 := by simp [cmpI, h1, h2]
      rw [e]; clear e
      go_enter Tryz.func94, Tryz.ntmps94
      go_wp2
      go_ret
      exact ⟨rfl, rfl⟩
    · have e : cmpI a b = 0 := by simp [cmpI, h1, h2]
      rw [e]; clear e
      go_enter Tryz.func94, Tryz.ntmps94
      go_wp2
      go_ret
      exact ⟨rfl, rfl⟩
set_option maxHeartbeats 400000 in
theorem cmpInt_any (a b : Int) (w : World) : Calls Tryz.prog 95 #[.int .i64 a, .int .i64 b] w fun e w' => e = .returned (.int .i64 (cmpI a b)) ∧ w' = w := by
  by_cases h1 : a < b
  · have e : cmpI a b = -1 := by simp [cmpI, h1]
    rw [e]; clear e
    go_enter Tryz.func95, Tryz.ntmps95
    go_wp2
    go_ret
    exact ⟨rfl, rfl⟩
  · by_cases h2 : b < a
    · have e : cmpI a b = 1 := by simp [cmpI, h1, h2]
      rw [e]; clear e
      go_enter Tryz.func95, Tryz.ntmps95
      go_wp2
      go_ret
      exact ⟨rfl, rfl⟩
    · have e : cmpI a b = 0 := by simp [cmpI, h1, h2]
      rw [e]; clear e
      go_enter Tryz.func95, Tryz.ntmps95
      go_wp2
      go_ret
      exact ⟨rfl, rfl⟩

set_option maxRecDepth 100000 in
set_option maxHeartbeats 1000000 in
theorem cmpStr0_any (a b : ByteArray) (w : World) : Calls Tryz.prog 108 #[.string a, .string b] w fun e w' => e = .returned (.int .i64 (compareBytes a.data.toList b.data.toList)) ∧ w' = w := by
  go_enter Tryz.func108, Tryz.ntmps108
  go_wp2
  rw [run_callFunc_extern Tryz.func113 (by kernel_rfl) (by kernel_rfl) (by kernel_rfl) (e := Extern.BytealgCompare.compare) (by kernel_rfl), Lib.run_compareString]
  simp only [Result.andThen]
  rw [Oper.upon_value]
  go_wp2
  go_ret
  exact ⟨rfl, rfl⟩
set_option maxHeartbeats 400000 in
theorem cmpStr_any (a b : ByteArray) (w : World) : Calls Tryz.prog 96 #[.string a, .string b] w fun e w' => e = .returned (.int .i64 (compareBytes a.data.toList b.data.toList)) ∧ w' = w := by
  go_enter Tryz.func96, Tryz.ntmps96
  go_wp2_with (go_at_call 108; refine (cmpStr0_any _ _ _).mono ?_; rintro e w' ⟨rfl, rfl⟩)
  go_ret
  exact ⟨rfl, rfl⟩

set_option maxRecDepth 100000 in
set_option maxHeartbeats 400000 in
theorem or_any (g : Nat) (x y z : Int) (w : World) (c0 : w.cell? ⟨g, 0, none⟩ = some (.int .i64 x)) (c1 : w.cell? ⟨g, 1, none⟩ = some (.int .i64 y)) (c2 : w.cell? ⟨g, 2, none⟩ = some (.int .i64 z)) :
    Calls Tryz.prog 93 #[.slice (some ⟨g, 0, none⟩) 3 3] w fun e w' => e = .returned (.int .i64 (orI x y z)) ∧ w' = w := by
  go_enter Tryz.func93, Tryz.ntmps93
  go_wp2_with fail
  go_loop [8] (fun i => i = .int .i64 0 ∨ (i = .int .i64 1 ∧ x = 0) ∨ (i = .int .i64 2 ∧ x = 0 ∧ y = 0) ∨ (i = .int .i64 3 ∧ x = 0 ∧ y = 0 ∧ z = 0)) (fun i => 3 - (intOf i).toNat)
  case atStart => exact .inl rfl
  case round =>
    rcases hrel with rfl | ⟨rfl, rfl⟩ | ⟨rfl, rfl, rfl⟩ | ⟨rfl, rfl, rfl, rfl⟩
    · by_cases h : x = 0
      · subst h
        go_wp2
        go_round
        case rel => first | exact .inr (.inl ⟨rfl, rfl⟩) | simp
        case measure => simp [intOf]
      · have h' : (x != 0) = true := by simp [h]
        have E : Hid (orI x y z = x) := by show _ = _; simp [orI, h]
        clear h
        go_wp2
        go_ret
        rw [E.out]
        exact ⟨rfl, rfl⟩
    · by_cases h : y = 0
      · subst h
        go_wp2
        go_round
        case rel => first | exact .inr (.inr (.inl ⟨rfl, rfl, rfl⟩)) | simp
        case measure => simp [intOf]
      · have h' : (y != 0) = true := by simp [h]
        have E : Hid (orI 0 y z = y) := by show _ = _; simp [orI, h]
        clear h
        go_wp2
        go_ret
        rw [E.out]
        exact ⟨rfl, rfl⟩
    · by_cases h : z = 0
      · subst h
        go_wp2
        go_round
        case rel => first | exact .inr (.inr (.inr ⟨rfl, rfl, rfl, rfl⟩)) | simp
        case measure => simp [intOf]
      · have h' : (z != 0) = true := by simp [h]
        have E : Hid (orI 0 0 z = z) := by show _ = _; simp [orI]
        clear h
        go_wp2
        go_ret
        rw [E.out]
        exact ⟨rfl, rfl⟩
    · go_wp2
      go_ret
      exact ⟨rfl, rfl⟩

theorem cell_grown {w w' : World} {b : Nat} (h : w.grownBy w' none) (hb : b < w.heap.size) (j : Nat) : w'.cell? ⟨b, j, none⟩ = w.cell? ⟨b, j, none⟩ := cell_same (h.block b hb (by simp)) j

set_option maxRecDepth 100000 in
set_option maxHeartbeats 400000 in
theorem cmpVals_any (x y : V) (w : World) :
    Calls Tryz.prog 81 #[x.val, y.val] w fun e w' => e = .returned (.int .i64 (cmpV x y)) ∧ w.grownBy w' none := by
  obtain ⟨xk, xn, xs⟩ := x
  obtain ⟨yk, yn, ys⟩ := y
  unfold V.val cmpV
  dsimp only
  have hga := World.grownBy_alloc w (.cells #[.int .i64 xk, .int .i64 xn, .string xs] 31) none
  have hgb := World.grownBy_alloc (w.alloc (.cells #[.int .i64 xk, .int .i64 xn, .string xs] 31)) (.cells #[.int .i64 yk, .int .i64 yn, .string ys] 31) none
  have hX : Vb (w.alloc (.cells #[.int .i64 xk, .int .i64 xn, .string xs] 31)) w.heap.size ⟨xk, xn, xs⟩ := Vb.new w ⟨xk, xn, xs⟩
  have hX2 := hX.kept hgb (by simp)
  have hY : Vb ((w.alloc (.cells #[.int .i64 xk, .int .i64 xn, .string xs] 31)).alloc (.cells #[.int .i64 yk, .int .i64 yn, .string ys] 31)) (w.heap.size + 1) ⟨yk, yn, ys⟩ := by
    have := Vb.new (w.alloc (.cells #[.int .i64 xk, .int .i64 xn, .string xs] 31)) ⟨yk, yn, ys⟩
    simpa using this
  have hG : w.grownBy ((w.alloc (.cells #[.int .i64 xk, .int .i64 xn, .string xs] 31)).alloc (.cells #[.int .i64 yk, .int .i64 yn, .string ys] 31)) none := grown_up hga hgb
  have Hsz : Hid (((w.alloc (.cells #[.int .i64 xk, .int .i64 xn, .string xs] 31)).alloc (.cells #[.int .i64 yk, .int .i64 yn, .string ys] 31)).heap.size = w.heap.size + 2) := by show _ = _; simp
  go_enter Tryz.func81, Tryz.ntmps81
  go_upto_region 1 with fail
  have hb0 : w.heap.size < ((w.alloc (.cells #[.int .i64 xk, .int .i64 xn, .string xs] 31)).alloc (.cells #[.int .i64 yk, .int .i64 yn, .string ys] 31)).heap.size := by simp; omega
  have hb1 : w.heap.size + 1 < ((w.alloc (.cells #[.int .i64 xk, .int .i64 xn, .string xs] 31)).alloc (.cells #[.int .i64 yk, .int .i64 yn, .string ys] 31)).heap.size := by simp
  clear hX hga hgb Hsz
  generalize ((w.alloc (.cells #[.int .i64 xk, .int .i64 xn, .string xs] 31)).alloc (.cells #[.int .i64 yk, .int .i64 yn, .string ys] 31)) = wc at *
  have d0 : ∀ W : World, wc.drew.grownBy W none → W.cell? ⟨w.heap.size, 0, none⟩ = some (.int .i64 xk) := fun W h => (cell_grown h hb0 0).trans hX2.c0
  have d1 : ∀ W : World, wc.drew.grownBy W none → W.cell? ⟨w.heap.size, 1, none⟩ = some (.int .i64 xn) := fun W h => (cell_grown h hb0 1).trans hX2.c1
  have d2 : ∀ W : World, wc.drew.grownBy W none → W.cell? ⟨w.heap.size, 2, none⟩ = some (.string xs) := fun W h => (cell_grown h hb0 2).trans hX2.c2
  have f0 : ∀ W : World, wc.drew.grownBy W none → W.cell? ⟨w.heap.size + 1, 0, none⟩ = some (.int .i64 yk) := fun W h => (cell_grown h hb1 0).trans hY.c0
  have f1 : ∀ W : World, wc.drew.grownBy W none → W.cell? ⟨w.heap.size + 1, 1, none⟩ = some (.int .i64 yn) := fun W h => (cell_grown h hb1 1).trans hY.c1
  have f2 : ∀ W : World, wc.drew.grownBy W none → W.cell? ⟨w.heap.size + 1, 2, none⟩ = some (.string ys) := fun W h => (cell_grown h hb1 2).trans hY.c2
  have dr : wc.drew.grownBy wc.drew none := World.grownBy.refl _ _
  clear hX2 hY hb0 hb1
  generalize w.heap.size = g at *
  go_region_held_law (fun w' => wc.drew.grownBy w' none) (first | assumption | exact dr | exact grown_up (by assumption) (World.grownBy_alloc _ _ _)) (first
    | (go_at_call 94; refine (cmpKind_any _ _ _).mono ?_; rintro e w2 ⟨rfl, rfl⟩)
    | (go_at_call 95; refine (cmpInt_any _ _ _).mono ?_; rintro e w2 ⟨rfl, rfl⟩)
    | (go_at_call 96; refine (cmpStr_any _ _ _).mono ?_; rintro e w2 ⟨rfl, rfl⟩)
    | (go_at_call 93; refine (or_any _ (cmpI xk yk) (cmpI xn yn) (compareBytes xs.data.toList ys.data.toList) _ (by simp) (by simp) (by simp)).mono ?_; rintro e w2 ⟨rfl, rfl⟩))
  go_wp2
  go_ret
  exact ⟨rfl, grown_up hG (grown_of_drew (by assumption))⟩

theorem cmpL_cons (x y : V) (a b : List V) (h : cmpV x y ≠ 0) : cmpL (x :: a) (y :: b) = cmpV x y := by simp [cmpL, h]
theorem cmpL_cons0 (x y : V) (a b : List V) (h : cmpV x y = 0) : cmpL (x :: a) (y :: b) = cmpL a b := by simp [cmpL, h]
theorem dropV (l : List V) (j : Nat) (h : j < l.length) : l.drop j = l[j] :: l.drop (j + 1) := List.drop_eq_getElem_cons h

set_option maxRecDepth 100000 in
set_option maxHeartbeats 400000 in
theorem cmpFunc_any (v v' : Value) (l m : List V) (w : World) (hT : Tup w v l) (hT' : Tup w v' m) :
    Calls Tryz.prog 80 #[v, v', .func (.func 81) #[] #[]] w fun e w' => e = .returned (.int .i64 (cmpL l m)) ∧ w.grownBy w' none := by
  obtain ⟨a, c, rfl, hc, hm, hL⟩ := hT
  obtain ⟨a', c', rfl, hc', hm', hL'⟩ := hT'
  have hlm : l.length ≤ maxLen := Nat.le_trans hc hm
  have hlm' : m.length ≤ maxLen := Nat.le_trans hc' hm'
  unfold maxLen at hlm hlm'
  have HL : Hid (∀ i (h : i < l.length), ∃ b off, a = some ⟨b, off, none⟩ ∧ b < w.heap.size ∧
    w.cell? ⟨b, off + i * 3, none⟩ = some (.int .i64 l[i].k) ∧ w.cell? ⟨b, off + i * 3 + 1, none⟩ = some (.int .i64 l[i].n) ∧ w.cell? ⟨b, off + i * 3 + 2, none⟩ = some (.string l[i].s)) := hL
  have HL' : Hid (∀ i (h : i < m.length), ∃ b off, a' = some ⟨b, off, none⟩ ∧ b < w.heap.size ∧
    w.cell? ⟨b, off + i * 3, none⟩ = some (.int .i64 m[i].k) ∧ w.cell? ⟨b, off + i * 3 + 1, none⟩ = some (.int .i64 m[i].n) ∧ w.cell? ⟨b, off + i * 3 + 2, none⟩ = some (.string m[i].s)) := hL'
  clear hL hL' hm hm' hc hc'
  go_enter Tryz.func80, Tryz.ntmps80
  go_wp2_with fail
  go_loopw [13] (fun i wr => ∃ j : Nat, j ≤ l.length ∧ i = .int .i64 j ∧ Hid (cmpL (l.drop j) (m.drop j) = cmpL l m) ∧ Hid (j ≤ m.length) ∧ w.grownBy wr none) (fun i _ => l.length - (intOf i).toNat)
  case atStart => exact ⟨0, Nat.zero_le _, rfl, rfl, Nat.zero_le _, World.grownBy.refl _ _⟩
  case round =>
    obtain ⟨j, hj, rfl, He, Hj', hg⟩ := hrel
    by_cases hlt : j < l.length
    · obtain ⟨b, off, rfl, hb, c0, c1, c2⟩ := HL.out j hlt
      have hji : (j : Int) < (l.length : Int) := by omega
      by_cases hlt' : j < m.length
      · obtain ⟨b', off', rfl, hb', c0', c1', c2'⟩ := HL'.out j hlt'
        have hji' : ¬ (j : Int) ≥ (m.length : Int) := by omega
        have hji2 : (j : Int) < (m.length : Int) := by omega
        have hs := hg.block b hb (by simp)
        have hs' := hg.block b' hb' (by simp)
        rw [← cell_same hs] at c0 c1 c2
        rw [← cell_same hs'] at c0' c1' c2'
        have hbr := Nat.lt_of_lt_of_le hb hg.size
        have hbr' := Nat.lt_of_lt_of_le hb' hg.size
        have He2 : Hid (cmpV l[j] m[j] = 0 → cmpL (l.drop (j + 1)) (m.drop (j + 1)) = cmpL l m) := by
          intro h
          rw [← He.out, dropV l j hlt, dropV m j hlt', cmpL_cons0 _ _ _ _ h]
        have He3 : Hid (cmpV l[j] m[j] ≠ 0 → cmpL l m = cmpV l[j] m[j]) := by
          intro h
          rw [← He.out, dropV l j hlt, dropV m j hlt', cmpL_cons _ _ _ _ h]
        generalize l[j] = x at *
        generalize m[j] = y at *
        have hga := World.grownBy_alloc wr (.cells #[.int .i64 x.k, .int .i64 x.n, .string x.s] 31) none
        have hgb := World.grownBy_alloc (wr.alloc (.cells #[.int .i64 x.k, .int .i64 x.n, .string x.s] 31)) (.cells #[.int .i64 y.k, .int .i64 y.n, .string y.s] 31) none
        have e0 := (cell_grown hga hbr' (off' + j * 3)).trans c0'
        have e1 := (cell_grown hga hbr' (off' + j * 3 + 1)).trans c1'
        have e2 := (cell_grown hga hbr' (off' + j * 3 + 2)).trans c2'
        clear hs hs'
        obtain ⟨V0, HV⟩ : ∃ V0, Hid (cmpV x y = V0) := ⟨_, rfl⟩
        rw [HV.out] at He2 He3
        by_cases hz : V0 = 0
        · subst hz
          go_wp2_with (go_at_call 81; refine (cmpVals_any x y _).mono ?_; rintro e w2 ⟨rfl, hg2⟩; rw [HV.out])
          go_roundw
          case rel => exact ⟨j + 1, by omega, by go_num, He2.out (by first | rfl | trivial), by show _ ≤ _; omega, grown_up (grown_up (grown_up hg hga) hgb) hg2⟩
          case measure => simp [intOf]; omega
        · have hz' : (V0 != 0) = true := by simp [hz]
          have HZ : Hid (V0 ≠ 0) := hz
          clear hz
          go_wp2_with (go_at_call 81; refine (cmpVals_any x y _).mono ?_; rintro e w2 ⟨rfl, hg2⟩; rw [HV.out])
          go_ret
          rw [He3.out HZ.out]
          exact ⟨rfl, grown_up (grown_up (grown_up hg hga) hgb) hg2⟩
      · have hji' : (j : Int) ≥ (m.length : Int) := by omega
        have hs := hg.block b hb (by simp)
        rw [← cell_same hs] at c0 c1 c2
        have E : Hid (cmpL l m = 1) := by
          show _ = _
          rw [← He.out, dropV l j hlt, List.drop_eq_nil_of_le (by omega : m.length ≤ j)]
          rfl
        generalize l[j] = x at *
        have hga := World.grownBy_alloc wr (.cells #[.int .i64 x.k, .int .i64 x.n, .string x.s] 31) none
        clear hs
        go_wp2
        go_ret
        rw [E.out]
        exact ⟨rfl, grown_up hg hga⟩
    · have hji : ¬ (j : Int) < (l.length : Int) := by omega
      by_cases h2 : l.length < m.length
      · have h2' : (l.length : Int) < (m.length : Int) := by omega
        have E : Hid (cmpL l m = -1) := by
          show _ = _
          rw [← He.out, List.drop_eq_nil_of_le (by omega : l.length ≤ j), dropV m j (by omega)]
          rfl
        go_wp2
        go_ret
        rw [E.out]
        exact ⟨rfl, hg⟩
      · have h2' : ¬ (l.length : Int) < (m.length : Int) := by omega
        have E : Hid (cmpL l m = 0) := by
          show _ = _
          rw [← He.out, List.drop_eq_nil_of_le (by omega : l.length ≤ j), List.drop_eq_nil_of_le (by omega : m.length ≤ j)]
          rfl
        go_wp2
        go_ret
        rw [E.out]
        exact ⟨rfl, hg⟩

set_option maxRecDepth 100000 in
set_option maxHeartbeats 400000 in
theorem compare_any (v v' : Value) (l m : List V) (w : World) (hT : Tup w v l) (hT' : Tup w v' m) :
    Calls Tryz.prog 63 #[v, v'] w fun e w' => e = .returned (.int .i64 (cmpL l m)) ∧ w.grownBy w' none := by
  go_enter Tryz.func63, Tryz.ntmps63
  go_wp2_with (go_at_call 80; refine (cmpFunc_any _ _ _ _ _ hT hT').mono ?_; rintro e w2 ⟨rfl, hg2⟩)
  go_ret
  exact ⟨rfl, hg2⟩

end Go.Proofs.YtpoahegccjgnjaaGreatDoor
