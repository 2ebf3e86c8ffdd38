/- Contract, over the turned program: check.Check tells whether a program may be run, or what the first fault is. Conditions: those that each theorem states. -/
import Derived.Test.YtpoahegccjgnjaaGreatDoorQF
import Derived.Laws.EntriesVeiled
namespace Go.Proofs.YtpoahegccjgnjaaGreatDoor
open Go.RowKit
set_option linter.unusedVariables false

/-- The rules, numbered: what each asks, its error, its function. -/
def pk (i : Nat) (l : List In) (k : Nat) : Bool := match i with
  | 0 => decide (k < 64)
  | 1 => okI (l.getD k d0)
  | 2 => regOk (l.getD k d0)
  | 3 => tgtOk l.length (l.getD k d0)
  | _ => decide (k + 1 < l.length) || endsI (l.getD k d0)
def ek (i : Nat) : Int := match i with
  | 0 => 3
  | 1 => 4
  | 2 => 6
  | 3 => 7
  | _ => 13
def fk (i : Nat) : Nat := match i with
  | 0 => 70
  | 1 => 71
  | 2 => 72
  | 3 => 73
  | _ => 74
theorem five (i : Nat) (h : i < 5) : i = 0 ∨ i = 1 ∨ i = 2 ∨ i = 3 ∨ i = 4 := by omega
theorem fk_rule (i : Nat) (h : i < 5) : RuleP (fk i) (pk i) := by
  rcases five i h with rfl | rfl | rfl | rfl | rfl
  · exact qroom
  · exact qmay
  · exact qhasRegs
  · exact qhasTgt
  · exact qstays
theorem fk_enters (i : Nat) (h : i < 5) : ∀ args W, (callFunc (fk i) args).run Tryz.prog W = .ok (.enter (fk i) args) W := by
  rcases five i h with rfl | rfl | rfl | rfl | rfl
  · exact enters_of Tryz.func70 (by kernel_rfl) rfl
  · exact enters_of Tryz.func71 (by kernel_rfl) rfl
  · exact enters_of Tryz.func72 (by kernel_rfl) rfl
  · exact enters_of Tryz.func73 (by kernel_rfl) rfl
  · exact enters_of Tryz.func74 (by kernel_rfl) rfl
theorem badI_first (p : In → Bool) : ∀ (l : List In) (k : Nat), k < l.length → (∀ j, j < k → p (l.getD j d0) = true) → p (l.getD k d0) = false → badI p l = k
  | [], k, hk, _, _ => by simp at hk
  | x :: l, 0, hk, h, hb => by
    unfold badI
    have : p x = false := by simpa using hb
    rw [this]
    rfl
  | x :: l, k + 1, hk, h, hb => by
    unfold badI
    have h0 : p x = true := by simpa using h 0 (by omega)
    rw [if_pos h0, badI_first p l k (by simpa using hk) (fun j hj => by simpa using h (j + 1) (by omega)) (by simpa using hb)]
theorem all_getD (p : In → Bool) (l : List In) (h : ∀ j, j < l.length → p (l.getD j d0) = true) : l.all p = true := by
  rw [List.all_eq_true]
  intro x hx
  obtain ⟨q, hq, rfl⟩ := List.getElem_of_mem hx
  rw [← getD_at hq]
  exact h q hq
theorem chk_bad (l : List In) (i : Nat) (hi : i < 5) (hn : 0 < l.length) (hall : ∀ i', i' < i → ∀ j, j < l.length → pk i' l j = true) (k : Nat) (hk : k < l.length) (hf : ∀ j, j < k → pk i l j = true) (hb : pk i l k = false) : chkI l = (ek i, (k : Int)) := by
  unfold chkI
  rw [if_neg (by omega)]
  by_cases h64 : 64 < l.length
  · rw [if_pos h64]
    have h0 : i = 0 := by
      rcases Nat.eq_zero_or_pos i with h | h
      · exact h
      · have : (64 : Nat) < 64 := of_decide_eq_true (hall 0 h 64 h64 : decide (64 < 64) = true)
        omega
    subst h0
    have h1 : ¬ k < 64 := of_decide_eq_false hb
    have h2 : ¬ 64 < k := fun h => by have : (64 : Nat) < 64 := of_decide_eq_true (hf 64 h : decide (64 < 64) = true); omega
    have h3 : k = 64 := by omega
    subst h3
    rfl
  · rw [if_neg h64]
    rcases five i hi with rfl | rfl | rfl | rfl | rfl
    · exfalso
      have : ¬ k < 64 := of_decide_eq_false hb
      omega
    · rw [badI_first okI l k hk hf hb, if_pos hk]
      rfl
    · have a1 := bad_is (all_getD okI l (hall 1 (by omega)))
      rw [if_neg a1, badI_first regOk l k hk hf hb, if_pos hk]
      rfl
    · have a1 := bad_is (all_getD okI l (hall 1 (by omega)))
      have a2 := bad_is (all_getD regOk l (hall 2 (by omega)))
      rw [if_neg a1, if_neg a2, badI_first (tgtOk l.length) l k hk hf hb, if_pos hk]
      rfl
    · have a1 := bad_is (all_getD okI l (hall 1 (by omega)))
      have a2 := bad_is (all_getD regOk l (hall 2 (by omega)))
      have a3 := bad_is (all_getD (tgtOk l.length) l (hall 3 (by omega)))
      have hb' : (decide (k + 1 < l.length) || endsI (l.getD k d0)) = false := hb
      rw [Bool.or_eq_false_iff] at hb'
      have hk1 := of_decide_eq_false hb'.1
      have e : k = l.length - 1 := by omega
      have he : endsI (l.getD (l.length - 1) ⟨0, 0, 0, 0, zV⟩) = false := by rw [← e]; exact hb'.2
      rw [if_neg a1, if_neg a2, if_neg a3, he]
      show ((13 : Int), ((l.length : Int) - 1)) = ((13 : Int), (k : Int))
      rw [show ((l.length : Int) - 1) = (k : Int) by omega]
theorem chk_good (l : List In) (hn : 0 < l.length) (hall : ∀ i', i' < 5 → ∀ j, j < l.length → pk i' l j = true) : chkI l = (0, 0) := by
  refine chk_zero l ⟨hn, ?_, all_getD okI l (hall 1 (by omega)), all_getD regOk l (hall 2 (by omega)), all_getD (tgtOk l.length) l (hall 3 (by omega)), ?_⟩
  · rcases Nat.lt_or_ge 64 l.length with h | h
    · have : (64 : Nat) < 64 := of_decide_eq_true (hall 0 (by omega) 64 h : decide (64 < 64) = true)
      omega
    · exact h
  · have h : (decide (l.length - 1 + 1 < l.length) || endsI (l.getD (l.length - 1) d0)) = true := hall 4 (by omega) (l.length - 1) (by omega)
    rw [decide_eq_false (by omega), Bool.false_or] at h
    exact h
theorem rules_cell (w : World) (i : Nat) (hi : i < 5) (g : Nat) (hg : w.heap.size = g) : (w.alloc (.cells #[.int .i64 3, .func (.func 70) #[] #[], .int .i64 4, .func (.func 71) #[] #[], .int .i64 6, .func (.func 72) #[] #[], .int .i64 7, .func (.func 73) #[] #[], .int .i64 13, .func (.func 74) #[] #[]] 77)).cell? ⟨g, i * 2, none⟩ = some (.int .i64 (ek i)) ∧
    (w.alloc (.cells #[.int .i64 3, .func (.func 70) #[] #[], .int .i64 4, .func (.func 71) #[] #[], .int .i64 6, .func (.func 72) #[] #[], .int .i64 7, .func (.func 73) #[] #[], .int .i64 13, .func (.func 74) #[] #[]] 77)).cell? ⟨g, i * 2 + 1, none⟩ = some (.func (.func (fk i)) #[] #[]) := by
  subst hg
  rcases five i hi with rfl | rfl | rfl | rfl | rfl <;> (refine ⟨?_, ?_⟩ <;> (simp <;> rfl))

set_option maxRecDepth 100000 in
set_option maxHeartbeats 1000000 in
theorem qcheck_any (v : Value) (l : List In) (w : World) (hT : Ins w v l) (hwf : ∀ x ∈ l, x.wf) (hG : Glob w) :
    Calls Tryz.prog 17 #[v] w fun e w' => e = .returned (.tuple #[.int .i64 (chkI l).1, .int .i64 (chkI l).2]) ∧ w.grownBy w' none := by
  obtain ⟨a, c, rfl, h1, h2, h3⟩ := hT
  have hT : Ins w (.slice a l.length c) l := ⟨a, c, rfl, h1, h2, h3⟩
  have HT := hide hT
  clear h1 h2 h3 hT
  obtain ⟨C, HC⟩ : ∃ C, Hid (chkI l = C) := ⟨_, rfl⟩
  rw [HC.out]
  by_cases h0 : l.length = 0
  · have hC : C = (1, 0) := by rw [← HC.out]; unfold chkI; rw [if_pos h0]
    have t0 : ((l.length : Int) == 0) = true := by simp [h0]
    subst hC
    clear h0
    go_enter Tryz.func17, Tryz.ntmps17
    go_wp2
    go_ret2
    exact ⟨rfl, World.grownBy.refl _ _⟩
  · have t0 : ((l.length : Int) == 0) = false := by rw [beq_eq_false_iff_ne]; omega
    have Hn : Hid (0 < l.length) := by show _ < _; omega
    clear h0
    have HR : Hid (∀ i, i < 5 → _) := fun i hi => rules_cell w i hi _ rfl
    have hg0 := World.grownBy_alloc w (.cells #[.int .i64 3, .func (.func 70) #[] #[], .int .i64 4, .func (.func 71) #[] #[], .int .i64 6, .func (.func 72) #[] #[], .int .i64 7, .func (.func 73) #[] #[], .int .i64 13, .func (.func 74) #[] #[]] 77) none
    go_enter Tryz.func17, Tryz.ntmps17
    go_wp2_with (go_at_call 48; refine (qrules_any _).mono ?_; rintro e w1 ⟨rfl, rfl⟩)
    generalize w.alloc (.cells #[.int .i64 3, .func (.func 70) #[] #[], .int .i64 4, .func (.func 71) #[] #[], .int .i64 6, .func (.func 72) #[] #[], .int .i64 7, .func (.func 73) #[] #[], .int .i64 13, .func (.func 74) #[] #[]] 77) = W0 at *
    go_loopw [13] (fun t wr => ∃ i : Nat, i ≤ 5 ∧ t = .int .i64 i ∧ W0.grownBy wr none ∧ Hid (∀ i', i' < i → ∀ j, j < l.length → pk i' l j = true)) (fun t _ => 5 - (intOf t).toNat)
    case atStart => exact ⟨0, Nat.zero_le _, rfl, World.grownBy.refl _ _, fun j hj => by omega⟩
    case round =>
      obtain ⟨i, hi, rfl, hg, Hi⟩ := hrel
      have hgw := grown_up hg0 hg
      by_cases hlt : i < 5
      · have hii : (i : Int) < 5 := by omega
        obtain ⟨r0, r1⟩ := HR.out i hlt
        have d1 : wr.cell? ⟨w.heap.size, i * 2, none⟩ = some (.int .i64 (ek i)) := (cell_same (hg.block _ (lt_of_cell r0) (by simp)) _).trans r0
        have d2 : wr.cell? ⟨w.heap.size, i * 2 + 1, none⟩ = some (.func (.func (fk i)) #[] #[]) := (cell_same (hg.block _ (lt_of_cell r1) (by simp)) _).trans r1
        have HFf := hide (fk_rule i hlt)
        have HFe := hide (fk_enters i hlt)
        have Hbad := hide (chk_bad l i hlt Hn.out Hi.out)
        have Hnext : Hid ((∀ j, j < l.length → pk i l j = true) → ∀ i', i' < i + 1 → ∀ j, j < l.length → pk i' l j = true) := by
          intro h i' hi' j hj
          rcases Nat.lt_or_ge i' i with h1 | h1
          · exact Hi.out i' h1 j hj
          · obtain rfl : i' = i := by omega
            exact h j hj
        rw [HC.out] at Hbad
        generalize pk i = P at *
        generalize ek i = er at *
        generalize fk i = f at *
        clear r0 r1
        have hga := World.grownBy_alloc wr (.cells #[.int .i64 er, .func (.func f) #[] #[]] 77) none
        have hgx := grown_up hgw hga
        go_wp2_with fail
        refine (qfault_any f P HFf.out HFe.out er _ l _ (HT.out.keptN hgx) hwf (hG.keptN hgx)).mono ?_
        rintro e w2 ⟨hP, hg2⟩
        have hgy := grown_up hgx hg2
        rcases hP with ⟨k, hk, hf, hb, rfl⟩ | ⟨hf, rfl⟩
        · have hC := Hbad.out k hk hf hb
          subst hC
          have hcl : (wr.alloc (.cells #[.int .i64 er, .func (.func f) #[] #[]] 77)).cell? ⟨wr.heap.size, 0, none⟩ = some (.int .i64 er) := by simp
          have hc2 : w2.cell? ⟨wr.heap.size, 0, none⟩ = some (.int .i64 er) := (cell_same (hg2.block _ (lt_of_cell hcl) (by simp)) _).trans hcl
          clear hf hb hcl
          go_wp2
          go_ret2
          exact ⟨rfl, hgy⟩
        · have Hf := hide hf
          clear hf
          go_wp2
          go_roundw
          case rel => exact ⟨i + 1, by omega, by go_num, grown_up (grown_up hg hga) hg2, Hnext.out Hf.out⟩
          case measure => simp [intOf]; omega
      · obtain rfl : i = 5 := by omega
        have hC := chk_good l Hn.out Hi.out
        rw [HC.out] at hC
        subst hC
        go_wp2
        go_ret2
        exact ⟨rfl, hgw⟩

end Go.Proofs.YtpoahegccjgnjaaGreatDoor
