/- Contracts, over the turned program: the reference's text, Read and Same of tuples answer as the plain words say. Conditions: those that each theorem states. -/
import Derived.Test.YtpoahegccjgnjaaGreatDoorKRef
import Derived.Laws.StructEq
import Derived.Deep.QuietTactic
import Derived.BigQuiet
namespace Go.Proofs.YtpoahegccjgnjaaGreatDoor
open Go.RowKit
set_option linter.unusedVariables false

theorem drop_cons (s : ByteArray) (i : Nat) (h : i < s.size) : s.data.toList.drop i = s[i] :: s.data.toList.drop (i + 1) := by
  have h2 : i < s.data.toList.length := by simpa using h
  rw [List.drop_eq_getElem_cons h2]
  congr 1
theorem drop_end (s : ByteArray) (i : Nat) (h : ¬ i < s.size) : s.data.toList.drop i = [] := List.drop_eq_nil_of_le (by rw [Array.length_toList]; show s.size ≤ i; omega)

/-- What the reference's text tells. -/
def ToldN (s : List UInt8) (x : Except Int (List UInt8 × List UInt8)) (t : ByteArray) (n er : Int) : Prop :=
  match x with
  | .ok (t', q) => t = mkB t' ∧ er = 0 ∧ ∃ m : Nat, n = m ∧ m ≤ s.length ∧ q = s.drop m
  | .error e => er = e

theorem rest_zero (l : List UInt8) : rest (mkB l) 0 = mkB l := rest_self _
theorem ext_tail (s : ByteArray) (i : Nat) : s.extract i s.size = mkB (s.data.toList.drop i) := by
  apply ByteArray.ext
  apply Array.ext'
  rw [ext_list, mkB_list]
  exact List.take_of_length_le (by rw [List.length_drop, Array.length_toList]; show s.size - i ≤ _; omega)

/-- Are two tuples the same? -/
def sameV (x y : V) : Bool := decide (x.k = y.k ∧ x.n = y.n ∧ x.s = y.s)
theorem sameV_iff (x y : V) : sameV x y = true ↔ x = y := by
  unfold sameV
  rw [decide_eq_true_iff]
  obtain ⟨a, b, c⟩ := x
  obtain ⟨d, e, f⟩ := y
  simp

set_option maxRecDepth 100000 in
set_option maxHeartbeats 400000 in
theorem same_any (v v' : Value) (l m : List V) (w : World) (hT : Tup w v l) (hT' : Tup w v' m) :
    Calls Tryz.prog 15 #[v, v'] w fun e w' => (∃ b : Bool, e = .returned (.bool b) ∧ (b = true ↔ l = m)) ∧ w.grownBy w' none := by
  obtain ⟨a, c, rfl, hc, hm, hL⟩ := hT
  obtain ⟨a', c', rfl, hc', hm', hL'⟩ := hT'
  have hlm : l.length ≤ maxLen := Nat.le_trans hc hm
  have hlm' : m.length ≤ maxLen := Nat.le_trans hc' hm'
  unfold maxLen at hlm hlm'
  by_cases hlen : l.length = m.length
  · have hne : ((l.length : Int) == (m.length : Int)) = true := by simp [hlen]
    go_enter Tryz.func15, Tryz.ntmps15
    go_wp2_with fail
    go_loopw [5] (fun i wr => ∃ j : Nat, j ≤ l.length ∧ i = .int .i64 j ∧ Hid (l.take j = m.take j) ∧ w.grownBy wr none) (fun i _ => l.length - (intOf i).toNat)
    case atStart => exact ⟨0, Nat.zero_le _, rfl, rfl, World.grownBy.refl _ _⟩
    case round =>
      obtain ⟨j, hj, rfl, He, hg⟩ := hrel
      by_cases hlt : j < l.length
      · have hlt' : j < m.length := by omega
        obtain ⟨b, off, rfl, hb, c0, c1, c2⟩ := hL j hlt
        obtain ⟨b', off', rfl, hb', c0', c1', c2'⟩ := hL' j hlt'
        have hs := hg.block b hb (by simp)
        have hs' := hg.block b' hb' (by simp)
        rw [← cell_same hs] at c0 c1 c2
        rw [← cell_same hs'] at c0' c1' c2'
        have hji : (j : Int) < (l.length : Int) := by omega
        have hji' : (j : Int) < (m.length : Int) := by omega
        have Hs1 : Hid (l.take (j + 1) = l.take j ++ [l[j]]) := List.take_succ_eq_append_getElem hlt
        have Hs2 : Hid (m.take (j + 1) = m.take j ++ [m[j]]) := List.take_succ_eq_append_getElem hlt'
        have Hne : Hid (l[j] ≠ m[j] → l ≠ m) := by
          intro h1 h2
          subst h2
          exact h1 rfl
        clear hL hL' hs hs'
        generalize l[j] = x at *
        generalize m[j] = y at *
        obtain ⟨xk, xn, xs⟩ := x
        obtain ⟨yk, yn, ys⟩ := y
        dsimp only at c0 c1 c2 c0' c1' c2'
        go_upto_region 6 with fail
        by_cases hk : xk = yk
        · by_cases hn : xn = yn
          · by_cases hs : xs = ys
            · have He2 : Hid (l.take (j + 1) = m.take (j + 1)) := by show _ = _; rw [Hs1.out, Hs2.out, He.out, hk, hn, hs]
              have hk' : (xk == yk) = true := by simp [hk]
              have hn' : (xn == yn) = true := by simp [hn]
              have hs' : (xs.toList == ys.toList) = true := by simp [hs]
              clear hk hn hs
              go_quiet (fail)
              go_wp2_with fail
              go_roundw
              case rel => exact ⟨j + 1, by omega, by go_num, He2, grown_up hg (grown_drewN _ _ _)⟩
              case measure => simp [intOf]; omega
            · have HN : Hid (l ≠ m) := Hne.out (by intro h; exact hs (congrArg V.s h))
              have hk' : (xk == yk) = true := by simp [hk]
              have hn' : (xn == yn) = true := by simp [hn]
              have hs' : (xs.toList == ys.toList) = false := by
                rw [beq_eq_false_iff_ne]
                intro h
                rw [ByteArray.toList_eq, ByteArray.toList_eq] at h
                exact hs (by rw [← mkB_self xs, ← mkB_self ys, h])
              clear hk hn hs
              go_quiet (fail)
              go_wp2
              go_ret
              exact ⟨⟨_, rfl, by simp; exact HN.out⟩, grown_up hg (grown_drewN _ _ _)⟩
          · have HN : Hid (l ≠ m) := Hne.out (by intro h; exact hn (congrArg V.n h))
            have hk' : (xk == yk) = true := by simp [hk]
            have hn' : (xn == yn) = false := by simp [hn]
            clear hk hn
            go_quiet (fail)
            go_wp2
            go_ret
            exact ⟨⟨_, rfl, by simp; exact HN.out⟩, grown_up hg (grown_drewN _ _ _)⟩
        · have HN : Hid (l ≠ m) := Hne.out (by intro h; exact hk (congrArg V.k h))
          have hk' : (xk == yk) = false := by simp [hk]
          clear hk
          go_quiet (fail)
          go_wp2
          go_ret
          exact ⟨⟨_, rfl, by simp; exact HN.out⟩, grown_up hg (grown_drewN _ _ _)⟩
      · have hji : ¬ (j : Int) < (l.length : Int) := by omega
        have HE : Hid (l = m) := by
          have h := He.out
          rw [List.take_of_length_le (by omega), List.take_of_length_le (by omega)] at h
          exact h
        go_wp2
        go_ret
        first | exact ⟨⟨_, rfl, by simp; exact HE.out⟩, hg⟩ | exact ⟨.inr ⟨rfl, HE.out⟩, hg⟩
  · have hne : ((l.length : Int) == (m.length : Int)) = false := by rw [beq_eq_false_iff_ne]; omega
    go_enter Tryz.func15, Tryz.ntmps15
    go_wp2
    go_ret
    exact ⟨⟨_, rfl, by simp; intro h; exact hlen (by rw [h])⟩, World.grownBy.refl _ _⟩

end Go.Proofs.YtpoahegccjgnjaaGreatDoor
