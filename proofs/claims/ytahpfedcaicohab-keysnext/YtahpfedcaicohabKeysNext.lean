/- KeysNext: whatever the two texts are, the law KeysNext returns true and leaves its arguments as they were: Next is what the document says; each text that begins with s is ahead of it, and what is neither ahead of s nor of it begins not with s. No conditions. -/
import Derived.Test.YtahpfedcaicohabRows
import Derived.Test.YtahpfedcaicohabKNext
import Derived.Test.YtahpfedcaicohabKLives
import Derived.OpenShut
import Derived.ShutString
import Derived.ChangeOld
import Derived.Below
namespace Go.Proofs.Ytahpfedcaicohab.keysNext
open Go.ChangeShapes Go.WideShapes Go.ChangeAt Go.RowKit
open Go.ChangeMaps (open_string shut_string)
set_option linter.unusedVariables false

theorem own : ownKnob Try.prog.godebug = none := by kernel_rfl
theorem laidOut : laidOutB Try.prog = true := by kernel_rfl

theorem less_cons (x y : UInt8) (a b : List UInt8) : Op.bytesLess (x :: a) (y :: b) = (decide (x < y) || (x == y && Op.bytesLess a b)) := by
  simp only [Op.bytesLess]
/-- A text that isn't ahead of m bytes of 255 begins with them. -/
theorem full (m : Nat) : ∀ t : List UInt8, Op.bytesLess t (List.replicate m 255) = false → t.take m = List.replicate m 255 := by
  induction m with
  | zero => intro t _; simp
  | succ m ih =>
    intro t h
    cases t with
    | nil => simp [List.replicate_succ, Op.bytesLess] at h
    | cons d t =>
      rw [List.replicate_succ, less_cons] at h
      simp only [Bool.or_eq_false_iff, decide_eq_false_iff_not, Bool.and_eq_false_iff] at h
      have hd : d = 255 := by
        have h1 := h.1
        rw [UInt8.lt_iff_toNat_lt] at h1
        have h2 := d.toNat_lt
        apply UInt8.toNat_inj.1
        simp at h1 ⊢
        omega
      subst hd
      have h2 : Op.bytesLess t (List.replicate m 255) = false := by simpa using h.2
      rw [List.take_succ_cons, ih t h2, List.replicate_succ]
theorem less_self (a : List UInt8) : Op.bytesLess a a = false := by
  induction a with
  | nil => rfl
  | cons x a ih =>
    have h1 : ¬ x < x := by rw [UInt8.lt_iff_toNat_lt]; omega
    rw [less_cons]
    simp [h1, ih]
theorem less_head (a r : List UInt8) : Op.bytesLess (a ++ r) a = false := by
  induction a with
  | nil => cases r <;> rfl
  | cons x a ih =>
    have h1 : ¬ x < x := by rw [UInt8.lt_iff_toNat_lt]; omega
    rw [List.cons_append, less_cons]
    simp [h1, ih]
theorem u8_succ (c : UInt8) (h : c ≠ 255) : (c + 1).toNat = c.toNat + 1 := by
  have h1 : c.toNat ≠ 255 := fun e => h (UInt8.toNat_inj.1 (by simpa using e))
  have h2 := c.toNat_lt
  rw [UInt8.toNat_add]
  simp
  omega
/-- Just what begins with s lies between s and the text behind. -/
theorem between (p : List UInt8) (c : UInt8) (m : Nat) (hc : c ≠ 255) : ∀ t : List UInt8,
    (t.take (p ++ c :: List.replicate m 255).length = p ++ c :: List.replicate m 255) ↔ (Op.bytesLess t (p ++ c :: List.replicate m 255) = false ∧ Op.bytesLess t (p ++ [c + 1]) = true) := by
  have hs := u8_succ c hc
  induction p with
  | nil =>
    intro t
    simp only [List.nil_append, List.length_cons, List.length_replicate]
    cases t with
    | nil => simp [Op.bytesLess]
    | cons d t =>
      rw [List.take_succ_cons, less_cons, less_cons]
      constructor
      · intro h
        have h1 := List.cons.inj h
        rw [h1.1]
        have l1 : ¬ c < c := by rw [UInt8.lt_iff_toNat_lt]; omega
        have l2 : c < c + 1 := by rw [UInt8.lt_iff_toNat_lt]; omega
        have l3 : Op.bytesLess t (List.replicate m 255) = false := by
          have e := List.take_append_drop m t
          rw [h1.2] at e
          rw [← e]
          exact less_head _ _
        simp [l1, l2, l3]
      · rintro ⟨h1, h2⟩
        simp only [Bool.or_eq_false_iff, decide_eq_false_iff_not, Bool.and_eq_false_iff, Bool.or_eq_true, decide_eq_true_eq, Bool.and_eq_true] at h1 h2
        have hd : d = c := by
          rcases h2 with h2 | h2
          · rw [UInt8.lt_iff_toNat_lt] at h2
            have h3 := h1.1
            rw [UInt8.lt_iff_toNat_lt] at h3
            apply UInt8.toNat_inj.1
            omega
          · exfalso
            have := h2.2
            cases t <;> simp [Op.bytesLess] at this
        subst hd
        have h3 : Op.bytesLess t (List.replicate m 255) = false := by simpa using h1.2
        rw [full m t h3]
  | cons x p ih =>
    intro t
    simp only [List.cons_append, List.length_cons]
    cases t with
    | nil => simp [Op.bytesLess]
    | cons d t =>
      have l1 : ¬ x < x := by rw [UInt8.lt_iff_toNat_lt]; omega
      rw [List.take_succ_cons, less_cons, less_cons]
      constructor
      · intro h
        have h1 := List.cons.inj h
        rw [h1.1]
        have := (ih t).1 h1.2
        simp [l1, this.1, this.2]
      · rintro ⟨h1, h2⟩
        simp only [Bool.or_eq_false_iff, decide_eq_false_iff_not, Bool.and_eq_false_iff, Bool.or_eq_true, decide_eq_true_eq, Bool.and_eq_true] at h1 h2
        have hd : d = x := by
          rcases h2 with h2 | h2
          · rw [UInt8.lt_iff_toNat_lt] at h2
            rcases h1.2 with h3 | h3
            · have h4 := h1.1
              rw [UInt8.lt_iff_toNat_lt] at h4
              apply UInt8.toNat_inj.1
              omega
            · have h4 := h1.1
              rw [UInt8.lt_iff_toNat_lt] at h4
              omega
          · simpa using h2.1
        subst hd
        have h3 : Op.bytesLess t (p ++ c :: List.replicate m 255) = false := by simpa using h1.2
        have h4 : Op.bytesLess t (p ++ [c + 1]) = true := by
          rcases h2 with h2 | h2
          · exact absurd h2 l1
          · exact h2.2
        rw [(ih t).2 ⟨h3, h4⟩]

theorem split (s : ByteArray) (n : Nat) (h : Nx s n) (h0 : 0 < n) : ∃ p c m, c ≠ 255 ∧ s.data.toList = p ++ c :: List.replicate m 255 ∧ nxB s n = p ++ [c + 1] := by
  obtain ⟨h1, h2, h3⟩ := h
  have hl : s.data.toList.length = s.size := by rw [Array.length_toList]; rfl
  have hi : n - 1 < s.size := by omega
  refine ⟨s.data.toList.take (n - 1), s[n - 1], s.size - n, h3 hi h0, ?_, ?_⟩
  · have hi2 : n - 1 < s.data.toList.length := by omega
    have e := List.take_append_drop (n - 1) s.data.toList
    rw [List.drop_eq_getElem_cons hi2] at e
    refine e.symm.trans (congrArg (s.data.toList.take (n - 1) ++ ·) (congrArg (s.data.toList[n - 1] :: ·) ?_))
    apply List.ext_getElem
    · simp; omega
    · intro i hi3 hi4
      simp only [List.length_drop] at hi3
      have := h2 (n - 1 + 1 + i) (by omega) (by omega)
      rw [List.getElem_drop, List.getElem_replicate]
      exact this
  · unfold nxB
    rw [getD_at s (n - 1) hi]

set_option maxRecDepth 100000 in
set_option maxHeartbeats 400000 in
theorem walk (s t : ByteArray) (w : World) (hs : s.size ≤ maxLen) (ht : t.size ≤ maxLen) :
    Calls Try.prog 3 #[.string s, .string t] w fun e w' => e = .returned (.bool true) ∧ w.grownBy w' none := by
  have Hs : Hid (s.size ≤ maxLen) := hs
  have Ht : Hid (t.size ≤ maxLen) := ht
  unfold maxLen at hs ht
  go_enter Try.func3, Try.ntmps3
  go_wp2_with fail
  refine (klives_any _).mono ?_
  rintro e w1 ⟨rfl, hg1⟩
  go_wp2_with fail
  refine (next_any s _ Hs.out).mono ?_
  rintro e w2 ⟨⟨n, hn, he⟩, hg2⟩
  rcases he with ⟨rfl, rfl⟩ | ⟨h0, rfl⟩
  · go_wp2_with fail
    refine (rnext_any s _ Hs.out).mono ?_
    rintro e w3 ⟨⟨n', hn', he⟩, hg3⟩
    obtain rfl := hn.unique hn'
    rcases he with ⟨_, rfl⟩ | ⟨h0, rfl⟩
    · by_cases h1 : (s.size : Int) ≤ (t.size : Int)
      all_goals
        go_wp2
        go_ret
        exact ⟨rfl, grown_up (grown_up hg1 hg2) hg3⟩
    · omega
  · go_wp2_with fail
    refine (rnext_any s _ Hs.out).mono ?_
    rintro e w3 ⟨⟨n', hn', he⟩, hg3⟩
    obtain rfl := hn.unique hn'
    rcases he with ⟨h1, rfl⟩ | ⟨_, rfl⟩
    · omega
    · obtain ⟨p, c, m, hc, e1, e2⟩ := split s n hn h0
      have HB : Hid ((s.size ≤ t.size ∧ (t.extract 0 s.size).toList = s.toList) ↔ (Op.bytesLess t.toList s.toList = false ∧ Op.bytesLess t.toList (mkB (nxB s n)).toList = true)) := by
        have hb := between p c m hc t.data.toList
        have hl : s.data.toList.length = s.size := by rw [Array.length_toList]; rfl
        have hlt : t.data.toList.length = t.size := by rw [Array.length_toList]; rfl
        rw [← e1, hl, ← e2] at hb
        show _ ↔ _
        rw [ByteArray.toList_eq, ByteArray.toList_eq, ByteArray.toList_eq, ByteArray.toList_eq, ext_list, mkB_list, ← hb]
        simp only [List.drop_zero, Nat.sub_zero]
        constructor
        · rintro ⟨_, h⟩; exact h
        · intro h
          refine ⟨?_, h⟩
          have := congrArg List.length h
          rw [List.length_take, hl, hlt] at this
          omega
      generalize mkB (nxB s n) = A at *
      have HG : Hid (w.grownBy w3 none) := grown_up (grown_up hg1 hg2) hg3
      clear hn hn' e1 e2 hc hg1 hg2 hg3 h0
      by_cases b1 : Op.bytesLess t.toList s.toList = true
      · by_cases h1 : s.size ≤ t.size
        · have h1' : (s.size : Int) ≤ (t.size : Int) := by omega
          have hF : ((t.extract 0 s.size).toList == s.toList) = false := by
            rw [beq_eq_false_iff_ne]
            intro h
            have := (HB.out.1 ⟨h1, h⟩).1
            rw [b1] at this
            cases this
          go_wp2
          go_ret
          exact ⟨rfl, HG.out⟩
        · have h1' : ¬ (s.size : Int) ≤ (t.size : Int) := by omega
          go_wp2
          go_ret
          exact ⟨rfl, HG.out⟩
      · have b1' : Op.bytesLess t.toList s.toList = false := by simpa using b1
        clear b1
        by_cases b2 : Op.bytesLess t.toList A.toList = true
        · have hT := HB.out.2 ⟨b1', b2⟩
          have h1' : (s.size : Int) ≤ (t.size : Int) := by have := hT.1; omega
          have hF : ((t.extract 0 s.size).toList == s.toList) = true := by rw [beq_iff_eq]; exact hT.2
          clear hT
          go_wp2
          go_ret
          exact ⟨rfl, HG.out⟩
        · have b2' : Op.bytesLess t.toList A.toList = false := by simpa using b2
          clear b2
          by_cases h1 : s.size ≤ t.size
          · have h1' : (s.size : Int) ≤ (t.size : Int) := by omega
            have hF : ((t.extract 0 s.size).toList == s.toList) = false := by
              rw [beq_eq_false_iff_ne]
              intro h
              have := (HB.out.1 ⟨h1, h⟩).2
              rw [b2'] at this
              cases this
            go_wp2
            go_ret
            exact ⟨rfl, HG.out⟩
          · have h1' : ¬ (s.size : Int) ≤ (t.size : Int) := by omega
            go_wp2
            go_ret
            exact ⟨rfl, HG.out⟩

set_option maxRecDepth 100000 in
theorem lifted (os : Os) (started : os.Started) (H : Type) (enc : TypeId × Value → H) :
    ReturnsInHanded {} Try.checked os 3 .any (Rows.keysNextSpec.pre6 enc Try.prog Try.f3 Rows.keysNextRow.domain false) (Rows.keysNextSpec.post enc Try.prog Try.f3 false true false false) := by
  refine returnsInHanded_of_change (C := Try.checked) own started (by kernel_rfl) Try.func3
    (ChangeSpec.witness6 (enc := enc) (C := Try.checked) false ⟨#[], #[.string ByteArray.empty, .string ByteArray.empty], []⟩ 8 (by kernel_rfl) (by kernel_rfl) (by kernel_rfl) (by kernel_rfl)) ?_
  intro W base args ds gs before hval0 hW hcnd _
  have hval : ∀ (j : Nat) t v, Try.f3.params[j]? = some t → args[j]? = some v → Value.okWide Try.prog W .any base t v := hval0
  have hW' := hW
  obtain ⟨p, q, hA0, hV, rfl, hfz, hnd⟩ := hW
  have hA : DataW.TrodAll enc Try.prog W 0 (fun _ => true) true Try.f3.params.toList args.toList ds p := hA0
  rw [Try.params3] at hA hval
  obtain ⟨v0, vs0, d0, ds0, p0, q0, hargs, rfl, rfl, h0, r0⟩ := trodAll_cons hA
  obtain ⟨v1, vs1, d1, ds1, p1, q1, rfl, rfl, rfl, h1, r1⟩ := trodAll_cons r0
  obtain ⟨rfl, rfl, rfl⟩ := trodAll_nil r1
  obtain rfl : args = #[v0, v1] := by cases args; simp_all
  obtain ⟨rfl, rfl⟩ := trodVars_none hV
  obtain ⟨s0, rfl, rfl, rfl, hs0⟩ := open_string Try.underlying9 (hval 0 9 v0 rfl rfl) h0
  obtain ⟨s1, rfl, rfl, rfl, hs1⟩ := open_string Try.underlying9 (hval 1 9 v1 rfl rfl) h1
  clear hA0 hval0
  refine (walk s0 s1 W hs0 hs1).mono fun e W' ⟨he, hg⟩ => ?_
  subst he
  have bel : Below W.heap.size W W' := (Below.refl _ W).grown hg (Nat.le_refl _) (by simp)
  exact ⟨_, rfl, _, _, _, [], _, [], hW', trodAll_mk1 (shut_bool Try.underlying4 _), (trodAll_cons_mk (shut_string Try.underlying9 hs0) (trodAll_cons_mk (shut_string Try.underlying9 hs1) trodAll_mk0)), rfl, bel.frame _, fun h => by cases h⟩

theorem over : Rows.keysNextRow.holds Try.pinned (OpenSpec.ofChange Rows.keysNextSpec) :=
  OpenClaim.holds_of_wide 3 Try.f3 rfl rfl rfl rfl rfl rfl rfl ⟨rfl, rfl, rfl, rfl, rfl⟩ rfl rfl rfl rfl rfl (by kernel_rfl) Try.func3 (by kernel_rfl)
    (of_decide_eq_true (by kernel_rfl)) (by unfold Func.isWrapper; first | (rw [if_pos (by decide +kernel)]; kernel_rfl) | (rw [if_neg (by decide +kernel)]; exact ⟨rfl, rfl⟩))
    (fun os started H enc _ => lifted os started H enc)
end Go.Proofs.Ytahpfedcaicohab.keysNext
namespace Go.Proofs.Ytahpfedcaicohab
theorem keysNext_holds : Rows.KeysNextSaid := keysNext.over
#print axioms keysNext_holds
end Go.Proofs.Ytahpfedcaicohab
