/- Contracts, over the turned program: the reference's Ahead, before and Compare tell how tuples of whatever values are ordered, in the plain words that keys.Compare is told in. Conditions: those that each theorem states. -/
import Derived.Test.YtpoahegccjgnjaaGreatDoorKCmp
namespace Go.Proofs.YtpoahegccjgnjaaGreatDoor
open Go.RowKit
open Go.Lib (compareBytes)
set_option linter.unusedVariables false

theorem cmpB_flip (a : List UInt8) : ∀ b, compareBytes b a = - compareBytes a b := by
  induction a with
  | nil => intro b; cases b <;> rfl
  | cons x a ih =>
    intro b
    cases b with
    | nil => rfl
    | cons y b =>
      unfold compareBytes
      rcases Nat.lt_trichotomy x.toNat y.toNat with h | h | h
      · have h1 : x < y := UInt8.lt_iff_toNat_lt.2 h
        have h2 : ¬ y < x := by rw [UInt8.lt_iff_toNat_lt]; omega
        simp [h1, h2]
      · have h1 : ¬ x < y := by rw [UInt8.lt_iff_toNat_lt]; omega
        have h2 : ¬ y < x := by rw [UInt8.lt_iff_toNat_lt]; omega
        simp only [h1, h2, if_false]
        exact ih b
      · have h1 : ¬ x < y := by rw [UInt8.lt_iff_toNat_lt]; omega
        have h2 : y < x := UInt8.lt_iff_toNat_lt.2 h
        simp [h1, h2]
theorem cmpB_cases (a : List UInt8) : ∀ b, compareBytes a b = -1 ∨ compareBytes a b = 0 ∨ compareBytes a b = 1 := by
  induction a with
  | nil => intro b; cases b; exact .inr (.inl rfl); exact .inl rfl
  | cons x a ih =>
    intro b
    cases b with
    | nil => exact .inr (.inr rfl)
    | cons y b =>
      unfold compareBytes
      split
      · exact .inl rfl
      · split
        · exact .inr (.inr rfl)
        · exact ih b
theorem cmpI_flip (a b : Int) : cmpI b a = - cmpI a b := by unfold cmpI; split <;> split <;> (try split) <;> omega
theorem cmpI_cases (a b : Int) : cmpI a b = -1 ∨ cmpI a b = 0 ∨ cmpI a b = 1 := by unfold cmpI; split; exact .inl rfl; split; exact .inr (.inr rfl); exact .inr (.inl rfl)
theorem cmpI_zero (a b : Int) : cmpI a b = 0 ↔ a = b := by unfold cmpI; split <;> (try split) <;> omega
theorem cmpI_neg (a b : Int) : cmpI a b < 0 ↔ a < b := by unfold cmpI; split <;> (try split) <;> omega
theorem cmpV_flip (x y : V) : cmpV y x = - cmpV x y := by
  unfold cmpV orI
  rw [cmpI_flip x.k y.k, cmpI_flip x.n y.n, cmpB_flip x.s.data.toList]
  generalize cmpI x.k y.k = p
  generalize cmpI x.n y.n = q
  by_cases hp : p = 0
  · subst hp
    by_cases hq : q = 0
    · subst hq; simp
    · have : - q ≠ 0 := by omega
      simp [hq, this]
  · have : - p ≠ 0 := by omega
    simp [hp, this]
theorem cmpV_cases (x y : V) : cmpV x y = -1 ∨ cmpV x y = 0 ∨ cmpV x y = 1 := by
  unfold cmpV orI
  split
  · exact cmpI_cases _ _
  · split
    · exact cmpI_cases _ _
    · exact cmpB_cases _ _

theorem cmpB_lt (a b : List UInt8) (x y : UInt8) (h : x ≠ y) : decide (compareBytes (x :: a) (y :: b) < 0) = decide (x.toNat < y.toNat) := by
  unfold compareBytes
  rcases Nat.lt_trichotomy x.toNat y.toNat with h1 | h1 | h1
  · have h2 : x < y := UInt8.lt_iff_toNat_lt.2 h1
    simp [h2, h1]
  · exact absurd (UInt8.toNat_inj.1 h1) h
  · have h2 : ¬ x < y := by rw [UInt8.lt_iff_toNat_lt]; omega
    have h3 : y < x := UInt8.lt_iff_toNat_lt.2 h1
    have h4 : ¬ x.toNat < y.toNat := by omega
    simp [h2, h3, h4]
theorem cmpB_eq (a b : List UInt8) (x : UInt8) : compareBytes (x :: a) (x :: b) = compareBytes a b := by
  have h : ¬ x < x := by rw [UInt8.lt_iff_toNat_lt]; omega
  simp [compareBytes, h]

set_option maxRecDepth 100000 in
set_option maxHeartbeats 400000 in
theorem ahead_any (s t : ByteArray) (w : World) (hs : s.size ≤ maxLen) (ht : t.size ≤ maxLen) :
    Calls Tryz.prog 85 #[.string s, .string t] w fun e w' => e = .returned (.bool (decide (compareBytes s.data.toList t.data.toList < 0))) ∧ w.grownBy w' none := by
  unfold maxLen at hs ht
  go_enter Tryz.func85, Tryz.ntmps85
  go_wp2_with fail
  go_loopw [5] (fun i wr => ∃ j : Nat, j ≤ s.size ∧ i = .int .i64 j ∧ Hid (compareBytes (s.data.toList.drop j) (t.data.toList.drop j) = compareBytes s.data.toList t.data.toList) ∧ Hid (j ≤ t.size) ∧ w.grownBy wr none) (fun i _ => s.size - (intOf i).toNat)
  case atStart => exact ⟨0, Nat.zero_le _, rfl, rfl, Nat.zero_le _, World.grownBy.refl _ _⟩
  case round =>
    obtain ⟨j, hj, rfl, He, Hj', hg⟩ := hrel
    by_cases h1 : j < s.size
    · have h1' : (j : Int) < (s.size : Int) := by omega
      by_cases h2 : j < t.size
      · have h2' : (j : Int) < (t.size : Int) := by omega
        have Hd1 : Hid (s.data.toList.drop j = s[j] :: s.data.toList.drop (j + 1)) := drop_cons s j h1
        have Hd2 : Hid (t.data.toList.drop j = t[j] :: t.data.toList.drop (j + 1)) := drop_cons t j h2
        by_cases hc : s[j] = t[j]
        · have hc' : ((s[j].toNat : Int) == (t[j].toNat : Int)) = true := by simp [hc]
          have He2 : Hid (compareBytes (s.data.toList.drop (j + 1)) (t.data.toList.drop (j + 1)) = compareBytes s.data.toList t.data.toList) := by
            show _ = _
            rw [← He.out, Hd1.out, Hd2.out, hc, cmpB_eq]
          clear hc
          go_upto_region 4 with fail
          go_quiet (fail)
          go_wp2_with fail
          go_roundw
          case rel => exact ⟨j + 1, by omega, by go_num, He2, by show _ ≤ _; omega, grown_up hg (grown_drewN _ _ _)⟩
          case measure => simp [intOf]; omega
        · have hc' : ((s[j].toNat : Int) == (t[j].toNat : Int)) = false := by
            rw [beq_eq_false_iff_ne]
            intro h
            exact hc (UInt8.toNat_inj.1 (by omega))
          have HF : Hid (decide (compareBytes s.data.toList t.data.toList < 0) = decide (s[j].toNat < t[j].toNat)) := by
            show _ = _
            rw [← He.out, Hd1.out, Hd2.out, cmpB_lt _ _ _ _ hc]
          clear hc
          go_upto_region 4 with fail
          go_quiet (fail)
          go_upto_region 5 with fail
          go_quiet (fail)
          go_wp2
          go_ret
          rw [HF.out]
          exact ⟨rfl, grown_up (grown_up hg (grown_drewN _ _ _)) (grown_drewN _ _ _)⟩
      · have h2' : ¬ (j : Int) < (t.size : Int) := by omega
        have h3 : ¬ (s.size : Int) < (t.size : Int) := by omega
        have HF : Hid (decide (compareBytes s.data.toList t.data.toList < 0) = false) := by
          show _ = _
          rw [← He.out, drop_cons s j h1, drop_end t j h2]
          rfl
        go_wp2
        go_ret
        rw [HF.out]
        exact ⟨rfl, hg⟩
    · have h1' : ¬ (j : Int) < (s.size : Int) := by omega
      by_cases h2 : s.size < t.size
      · have h2' : (s.size : Int) < (t.size : Int) := by omega
        have HF : Hid (decide (compareBytes s.data.toList t.data.toList < 0) = true) := by
          show _ = _
          rw [← He.out, drop_cons t j (by omega), drop_end s j h1]
          rfl
        go_wp2
        go_ret
        rw [HF.out]
        exact ⟨rfl, hg⟩
      · have h2' : ¬ (s.size : Int) < (t.size : Int) := by omega
        have HF : Hid (decide (compareBytes s.data.toList t.data.toList < 0) = false) := by
          show _ = _
          rw [← He.out, drop_end t j (by omega), drop_end s j h1]
          rfl
        go_wp2
        go_ret
        rw [HF.out]
        exact ⟨rfl, hg⟩

set_option maxRecDepth 100000 in
set_option maxHeartbeats 400000 in
theorem before_any (x y : V) (w : World) (hx : x.s.size ≤ maxLen) (hy : y.s.size ≤ maxLen) :
    Calls Tryz.prog 67 #[x.val, y.val] w fun e w' => e = .returned (.bool (decide (cmpV x y < 0))) ∧ w.grownBy w' none := by
  obtain ⟨xk, xn, xs⟩ := x
  obtain ⟨yk, yn, ys⟩ := y
  unfold V.val cmpV
  dsimp only at hx hy ⊢
  have hG : w.grownBy ((w.alloc (.cells #[.int .i64 xk, .int .i64 xn, .string xs] 31)).alloc (.cells #[.int .i64 yk, .int .i64 yn, .string ys] 31)) none := grown_up (World.grownBy_alloc _ _ _) (World.grownBy_alloc _ _ _)
  by_cases hk : xk = yk
  · have hk' : (xk == yk) = true := by simp [hk]
    have Hk : Hid (cmpI xk yk = 0) := (cmpI_zero _ _).2 hk
    clear hk
    by_cases hn : xn = yn
    · have hn' : (xn == yn) = true := by simp [hn]
      have HE : Hid (orI (cmpI xk yk) (cmpI xn yn) (compareBytes xs.data.toList ys.data.toList) = compareBytes xs.data.toList ys.data.toList) := by
        show _ = _
        rw [Hk.out, (cmpI_zero _ _).2 hn]
        rfl
      clear hn
      go_enter Tryz.func67, Tryz.ntmps67
      go_wp2_with (go_at_call 85; refine (ahead_any _ _ _ hx hy).mono ?_; rintro e w2 ⟨rfl, hg2⟩)
      go_ret
      rw [HE.out]
      exact ⟨rfl, grown_up hG hg2⟩
    · have hn' : (xn == yn) = false := by simp [hn]
      have HE : Hid (decide (orI (cmpI xk yk) (cmpI xn yn) (compareBytes xs.data.toList ys.data.toList) < 0) = decide (xn < yn)) := by
        have h0 : cmpI xn yn ≠ 0 := fun h => hn ((cmpI_zero _ _).1 h)
        show _ = _
        rw [Hk.out]
        unfold orI
        simp only [ne_eq, not_true, if_false, h0, not_false_iff, if_true]
        rw [decide_eq_decide]
        exact cmpI_neg _ _
      clear hn
      go_enter Tryz.func67, Tryz.ntmps67
      go_wp2
      go_ret
      rw [HE.out]
      exact ⟨rfl, hG⟩
  · have hk' : (xk == yk) = false := by simp [hk]
    have HE : Hid (decide (orI (cmpI xk yk) (cmpI xn yn) (compareBytes xs.data.toList ys.data.toList) < 0) = decide (xk < yk)) := by
      have h0 : cmpI xk yk ≠ 0 := fun h => hk ((cmpI_zero _ _).1 h)
      show _ = _
      unfold orI
      simp only [ne_eq, h0, not_false_iff, if_true]
      rw [decide_eq_decide]
      exact cmpI_neg _ _
    clear hk
    go_enter Tryz.func67, Tryz.ntmps67
    go_wp2
    go_ret
    rw [HE.out]
    exact ⟨rfl, hG⟩

set_option maxRecDepth 100000 in
set_option maxHeartbeats 400000 in
theorem rcompare_any (v v' : Value) (l m : List V) (w : World) (hT : Tup w v l) (hT' : Tup w v' m) (hwl : ∀ x ∈ l, x.wf) (hwm : ∀ x ∈ m, x.wf) :
    Calls Tryz.prog 44 #[v, v'] w fun e w' => e = .returned (.int .i64 (cmpL l m)) ∧ w.grownBy w' none := by
  obtain ⟨a, c, rfl, hc, hm, hL⟩ := hT
  obtain ⟨a', c', rfl, hc', hm', hL'⟩ := hT'
  have hlm : l.length ≤ maxLen := Nat.le_trans hc hm
  have hlm' : m.length ≤ maxLen := Nat.le_trans hc' hm'
  unfold maxLen at hlm hlm'
  have HL : Hid (∀ i (h : i < l.length), ∃ b off, a = some ⟨b, off, none⟩ ∧ b < w.heap.size ∧
    w.cell? ⟨b, off + i * 3, none⟩ = some (.int .i64 l[i].k) ∧ w.cell? ⟨b, off + i * 3 + 1, none⟩ = some (.int .i64 l[i].n) ∧ w.cell? ⟨b, off + i * 3 + 2, none⟩ = some (.string l[i].s)) := hL
  have HL' : Hid (∀ i (h : i < m.length), ∃ b off, a' = some ⟨b, off, none⟩ ∧ b < w.heap.size ∧
    w.cell? ⟨b, off + i * 3, none⟩ = some (.int .i64 m[i].k) ∧ w.cell? ⟨b, off + i * 3 + 1, none⟩ = some (.int .i64 m[i].n) ∧ w.cell? ⟨b, off + i * 3 + 2, none⟩ = some (.string m[i].s)) := hL'
  have Hwl : Hid (∀ x ∈ l, x.wf) := hwl
  have Hwm : Hid (∀ x ∈ m, x.wf) := hwm
  clear hL hL' hm hm' hc hc' hwl hwm
  go_enter Tryz.func44, Tryz.ntmps44
  go_wp2_with fail
  go_loopw [5] (fun i wr => ∃ j : Nat, j ≤ l.length ∧ i = .int .i64 j ∧ Hid (cmpL (l.drop j) (m.drop j) = cmpL l m) ∧ Hid (j ≤ m.length) ∧ w.grownBy wr none) (fun i _ => l.length - (intOf i).toNat)
  case atStart => exact ⟨0, Nat.zero_le _, rfl, rfl, Nat.zero_le _, World.grownBy.refl _ _⟩
  case round =>
    obtain ⟨j, hj, rfl, He, Hj', hg⟩ := hrel
    by_cases hlt : j < l.length
    · have hji : (j : Int) < (l.length : Int) := by omega
      by_cases hlt' : j < m.length
      · obtain ⟨b, off, rfl, hb, c0, c1, c2⟩ := HL.out j hlt
        obtain ⟨b', off', rfl, hb', c0', c1', c2'⟩ := HL'.out j hlt'
        have hji2 : (j : Int) < (m.length : Int) := by omega
        have He2 : Hid (cmpV l[j] m[j] = 0 → cmpL (l.drop (j + 1)) (m.drop (j + 1)) = cmpL l m) := by
          intro h
          rw [← He.out, dropV l j hlt, dropV m j hlt', cmpL_cons0 _ _ _ _ h]
        have He3 : Hid (cmpV l[j] m[j] ≠ 0 → cmpL l m = cmpV l[j] m[j]) := by
          intro h
          rw [← He.out, dropV l j hlt, dropV m j hlt', cmpL_cons _ _ _ _ h]
        have Hx : Hid (l[j].s.size ≤ maxLen) := (Hwl.out _ (List.getElem_mem hlt)).s0
        have Hy : Hid (m[j].s.size ≤ maxLen) := (Hwm.out _ (List.getElem_mem hlt')).s0
        have Hbr : Hid (b < wr.heap.size ∧ b' < wr.heap.size) := ⟨Nat.lt_of_lt_of_le hb hg.size, Nat.lt_of_lt_of_le hb' hg.size⟩
        rw [← cell_same (hg.block b hb (by simp))] at c0 c1 c2
        rw [← cell_same (hg.block b' hb' (by simp))] at c0' c1' c2'
        generalize l[j] = x at *
        generalize m[j] = y at *
        have d0 : ∀ W : World, wr.grownBy W none → W.cell? ⟨b, off + j * 3, none⟩ = some (.int .i64 x.k) := fun W h => (cell_grown h Hbr.out.1 _).trans c0
        have d1 : ∀ W : World, wr.grownBy W none → W.cell? ⟨b, off + j * 3 + 1, none⟩ = some (.int .i64 x.n) := fun W h => (cell_grown h Hbr.out.1 _).trans c1
        have d2 : ∀ W : World, wr.grownBy W none → W.cell? ⟨b, off + j * 3 + 2, none⟩ = some (.string x.s) := fun W h => (cell_grown h Hbr.out.1 _).trans c2
        have f0 : ∀ W : World, wr.grownBy W none → W.cell? ⟨b', off' + j * 3, none⟩ = some (.int .i64 y.k) := fun W h => (cell_grown h Hbr.out.2 _).trans c0'
        have f1 : ∀ W : World, wr.grownBy W none → W.cell? ⟨b', off' + j * 3 + 1, none⟩ = some (.int .i64 y.n) := fun W h => (cell_grown h Hbr.out.2 _).trans c1'
        have f2 : ∀ W : World, wr.grownBy W none → W.cell? ⟨b', off' + j * 3 + 2, none⟩ = some (.string y.s) := fun W h => (cell_grown h Hbr.out.2 _).trans c2'
        have dr : wr.grownBy wr.drew none := ⟨rfl, rfl, rfl, Nat.le_refl _, fun _ _ _ => rfl⟩
        clear c0 c1 c2 c0' c1' c2' hb hb'
        rcases cmpV_cases x y with hv | hv | hv
        · have hA : decide (cmpV x y < 0) = true := by rw [hv]; rfl
          have HR : Hid (cmpL l m = -1) := by show _ = _; rw [He3.out (by rw [hv]; decide), hv]
          clear hv
          go_upto_region 4 with fail
          go_region_held_law (fun w' => wr.grownBy w' none) (first | assumption | exact dr) (first
            | (go_at_call 67; refine (before_any x y _ Hx.out Hy.out).mono ?_; rintro e w2 ⟨rfl, hg2⟩; rw [hA]; have S2 : wr.grownBy w2 none := grown_up (by assumption) hg2))
          go_wp2
          go_ret
          rw [HR.out]
          exact ⟨rfl, grown_up hg S2⟩
        · have hA : decide (cmpV x y < 0) = false := by rw [hv]; rfl
          have hB : decide (cmpV y x < 0) = false := by rw [cmpV_flip, hv]; rfl
          have HR := He2.out hv
          have HR' : Hid (cmpL (l.drop (j + 1)) (m.drop (j + 1)) = cmpL l m) := HR
          clear hv HR
          go_upto_region 4 with fail
          go_region_held_law (fun w' => wr.grownBy w' none) (first | assumption | exact dr) (first
            | (go_at_call 67; refine (before_any x y _ Hx.out Hy.out).mono ?_; rintro e w2 ⟨rfl, hg2⟩; rw [hA]; have S2 : wr.grownBy w2 none := grown_up (by assumption) hg2))
          have dr2 : wr.grownBy w2.drew none := ⟨S2.os, S2.tape, S2.output, S2.size, S2.block⟩
          go_upto_region 6 with fail
          go_region_held_law (fun w' => wr.grownBy w' none) (first | assumption | exact dr2) (first
            | (go_at_call 67; refine (before_any y x _ Hy.out Hx.out).mono ?_; rintro e w3 ⟨rfl, hg3⟩; rw [hB]; have S3 : wr.grownBy w3 none := grown_up (by assumption) hg3))
          go_wp2_with fail
          go_roundw
          case rel => exact ⟨j + 1, by omega, by go_num, HR', by show _ ≤ _; omega, grown_up hg S3⟩
          case measure => simp [intOf]; omega
        · have hA : decide (cmpV x y < 0) = false := by rw [hv]; rfl
          have hB : decide (cmpV y x < 0) = true := by rw [cmpV_flip, hv]; rfl
          have HR : Hid (cmpL l m = 1) := by show _ = _; rw [He3.out (by rw [hv]; decide), hv]
          clear hv
          go_upto_region 4 with fail
          go_region_held_law (fun w' => wr.grownBy w' none) (first | assumption | exact dr) (first
            | (go_at_call 67; refine (before_any x y _ Hx.out Hy.out).mono ?_; rintro e w2 ⟨rfl, hg2⟩; rw [hA]; have S2 : wr.grownBy w2 none := grown_up (by assumption) hg2))
          have dr2 : wr.grownBy w2.drew none := ⟨S2.os, S2.tape, S2.output, S2.size, S2.block⟩
          go_upto_region 6 with fail
          go_region_held_law (fun w' => wr.grownBy w' none) (first | assumption | exact dr2) (first
            | (go_at_call 67; refine (before_any y x _ Hy.out Hx.out).mono ?_; rintro e w3 ⟨rfl, hg3⟩; rw [hB]; have S3 : wr.grownBy w3 none := grown_up (by assumption) hg3))
          go_wp2
          go_ret
          rw [HR.out]
          exact ⟨rfl, grown_up hg S3⟩
      · have h2' : ¬ (j : Int) < (m.length : Int) := by omega
        have h3 : ¬ (l.length : Int) < (m.length : Int) := by omega
        have h4 : (l.length : Int) > (m.length : Int) := by omega
        have E : Hid (cmpL l m = 1) := by
          show _ = _
          rw [← He.out, dropV l j hlt, List.drop_eq_nil_of_le (by omega : m.length ≤ j)]
          rfl
        go_wp2
        go_ret
        rw [E.out]
        exact ⟨rfl, hg⟩
    · have hji : ¬ (j : Int) < (l.length : Int) := by omega
      by_cases h2 : l.length < m.length
      · have h2' : (l.length : Int) < (m.length : Int) := by omega
        have E : Hid (cmpL l m = -1) := by
          show _ = _
          rw [← He.out, List.drop_eq_nil_of_le (by omega : l.length ≤ j), dropV m j (by omega)]
          rfl
        go_wp2
        go_ret
        rw [E.out]
        exact ⟨rfl, hg⟩
      · have h2' : ¬ (l.length : Int) < (m.length : Int) := by omega
        have hjm := Hj'.out
        have h5 : ¬ (l.length : Int) > (m.length : Int) := by omega
        have E : Hid (cmpL l m = 0) := by
          show _ = _
          rw [← He.out, List.drop_eq_nil_of_le (by omega : l.length ≤ j), List.drop_eq_nil_of_le (by omega : m.length ≤ j)]
          rfl
        go_wp2
        go_ret
        rw [E.out]
        exact ⟨rfl, hg⟩

end Go.Proofs.YtpoahegccjgnjaaGreatDoor
