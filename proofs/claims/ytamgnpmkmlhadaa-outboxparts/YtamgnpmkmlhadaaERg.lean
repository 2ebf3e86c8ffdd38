/- Contracts, over the turned program: a value's bytes and the value of bytes, as the document reads them. Conditions: those that each theorem states. -/
import Derived.Test.YtamgnpmkmlhadaaERe
import Derived.Test.YtamgnpmkmlhadaaKRef
import Derived.Deep.RegionHeldLaw
import Derived.Deep.RegionHeld3
import Derived.Deep.RegionLaw
namespace Go.Proofs.Ytamgnpmkmlhadaa
open Go Go.RowKit
set_option linter.unusedVariables false

theorem take_at9 {P : Program} {md : Region.Mode} {ops : Array Oper} {Q : Exit → Act → World → Prop} {S : World → Prop} {i d : Nat} {oi : Oper} {v : Value} {fuel : Nat} {listed : Array Bool} {a : Act} {w : World} (hi : ops[i]? = some oi) (hd : oi.dst = some d)
    (hs : Region.noSelect ops = true) (hf : Region.free md ops listed i = true) (hr : (Region.ready md ops listed).contains i = true)
    (hQ : ∀ c a w, Q (.panic c) (a.put oi.dst v) w → Q (.panic c) a w) (hy : YieldsIf P ops S oi v a) (hS : S w)
    (h : wpAnyH P md ops Q S fuel (listed.setIfInBounds i true) (a.put (some d) v) w) : wpAnyH P md ops Q S (fuel + 1) listed a w :=
  wpAnyH_take hi hs hf hr hQ hy hS (by rw [hd]; exact h)
theorem cell_g9 {w w' : World} {b o : Nat} {v : Value} (hc : w.cell? ⟨b, o, none⟩ = some v) (hg : w.grownBy w' none) : w'.cell? ⟨b, o, none⟩ = some v := (cell_same (hg.block b (lt_of_cell hc) (by simp)) o).trans hc

set_option maxRecDepth 100000 in
set_option maxHeartbeats 400000 in
theorem ris_any9 (x : V) (w : World) : Calls Try.prog 44 #[x.val] w fun e w' => e = .returned (.bool (okC x)) ∧ w.grownBy w' none := by
  have hga := World.grownBy_alloc w (.cells #[.int .i64 x.k, .int .i64 x.n, .string x.s] 24) none
  have hr := right_any x (w.alloc (.cells #[.int .i64 x.k, .int .i64 x.n, .string x.s] 24))
  have hX := (Vb.new w x).c2
  have Hc : Hid (okC x = (okV x && decide (x.s.size ≤ 10))) := rfl
  obtain ⟨R, HR⟩ : ∃ R, Hid (okC x = R) := ⟨_, rfl⟩
  rw [HR.out] at Hc ⊢
  unfold V.val at hr ⊢
  cases hv : okV x with
  | false =>
    rw [hv] at hr
    have e := Hc.out
    rw [hv, Bool.false_and] at e
    subst e
    clear hv
    go_enter Try.func44, Try.ntmps44
    go_wp2_with (go_at_call 56; refine hr.mono ?_; rintro e w2 ⟨rfl, hg2⟩; have d2 := cell_g9 hX hg2)
    go_ret
    exact ⟨rfl, grown_up hga hg2⟩
  | true =>
    rw [hv] at hr
    have e := Hc.out
    rw [hv, Bool.true_and] at e
    clear hv
    by_cases hs : x.s.size ≤ 10
    · have hs' : (x.s.size : Int) ≤ 10 := by omega
      rw [decide_eq_true hs] at e
      subst e
      clear hs
      go_enter Try.func44, Try.ntmps44
      go_wp2_with (go_at_call 56; refine hr.mono ?_; rintro e w2 ⟨rfl, hg2⟩; have d2 := cell_g9 hX hg2)
      go_ret
      exact ⟨rfl, grown_up hga hg2⟩
    · have hs' : ¬ (x.s.size : Int) ≤ 10 := by omega
      rw [decide_eq_false hs] at e
      subst e
      clear hs
      go_enter Try.func44, Try.ntmps44
      go_wp2_with (go_at_call 56; refine hr.mono ?_; rintro e w2 ⟨rfl, hg2⟩; have d2 := cell_g9 hX hg2)
      go_ret
      exact ⟨by show Ending.returned (.bool (decide ((x.s.size : Int) ≤ 10))) = _; rw [decide_eq_false (by omega)], grown_up hga hg2⟩

theorem rnum9 (o : Int) (k : Int) (m : Nat) (hm : wid k = m) (w : World) :
    Calls Try.prog 32 #[.int .u64 (IntKind.u64.wrap o), .int .i64 k] w fun y w' => y = .returned (.string (mkB (be (n2u o) m))) ∧ w.grownBy w' none := by
  subst hm
  rw [n2u_wr9]
  exact rfnum_any (n2u o) k w (n2u_lt9 o)
theorem n2u_nat (o : Int) (h : 0 ≤ o ∧ o ≤ 1000000) : n2u o = o.toNat := by unfold n2u; omega
set_option maxRecDepth 100000 in
set_option maxHeartbeats 1000000 in
theorem rvalue9_any (x : V) (w : World) (hx : x.wf) :
    Calls Try.prog 31 #[x.val] w fun e w' => e = .returned (.tuple #[.string (vB x), .int .i64 (vE x)]) ∧ w.grownBy w' none := by
  have hm := ris_any9 x (w.alloc (.cells #[.int .i64 x.k, .int .i64 x.n, .string x.s] 24))
  have hV := Vb.new w x
  have hga := World.grownBy_alloc w (.cells #[.int .i64 x.k, .int .i64 x.n, .string x.s] 24) none
  have c0 := hV.c0
  have c1 := hV.c1
  have c2 := hV.c2
  unfold vB vE
  cases hk : okC x with
  | false =>
    rw [hk] at hm
    rw [if_neg (by decide), if_neg (by decide)]
    unfold V.val at hm ⊢
    go_enter Try.func31, Try.ntmps31
    go_wp2_with (go_at_call 44; refine hm.mono ?_; rintro e w1 ⟨rfl, hg1⟩)
    go_ret2
    exact ⟨rfl, grown_up hga hg1⟩
  | true =>
    rw [hk] at hm
    rw [if_pos rfl, if_pos rfl]
    have hkc := okC_k hk
    have hsz := okC_S hk
    have HE := hide (encC_be x hk)
    have s0 := hx.s0
    have hn := hide (n2u_nat x.k (by omega))
    obtain ⟨E, HEE⟩ : ∃ E, Hid (mkB (encC x) = E) := ⟨_, rfl⟩
    rw [HEE.out]
    unfold V.val at hm ⊢
    have hL : x.s.data.toList.length = x.s.size := by rw [Array.length_toList]; rfl
    rcases hkc with h1 | h1
    · have e1 : (x.k == 1) = true := by rw [h1]; rfl
      have HE2 : Hid (E = mkB (be x.k.toNat 1) ++ mkB (be (n2u x.n) 8)) := by show _ = _; rw [← HEE.out, HE.out, if_pos h1, mkB_append]
      have t1 : ¬ 9223372036854775807 < (mkB (be x.k.toNat 1)).size + (mkB (be (n2u x.n) 8)).size := by rw [mkB_size, mkB_size, be_len, be_len]; omega
      clear hk HE h1
      obtain ⟨S2, HS2⟩ : ∃ S, Hid (mkB (be (n2u x.n) 8) = S) := ⟨_, rfl⟩
      rw [HS2.out] at HE2 t1
      obtain ⟨S1, HS1⟩ : ∃ S, Hid (mkB (be x.k.toNat 1) = S) := ⟨_, rfl⟩
      rw [HS1.out] at HE2 t1
      go_enter Try.func31, Try.ntmps31
      go_wp2_with (go_at_call 44; refine hm.mono ?_; rintro e w1 ⟨rfl, hg1⟩; have d0 := cell_g9 c0 hg1)
      refine (rnum9 x.k 1 1 wid1 w1).mono ?_
      rintro e w2 ⟨rfl, hg2⟩
      rw [hn.out, HS1.out]
      have hg12 := grown_up hg1 hg2
      have d0 := cell_g9 c0 hg12
      have d1 := cell_g9 c1 hg12
      go_wp2_with (go_at_call 32; refine (rnum9 x.n 8 8 wid8 _).mono ?_; rintro e w3 ⟨rfl, hg3⟩; rw [HS2.out])
      go_ret2
      rw [HE2.out]
      exact ⟨rfl, grown_up (grown_up hga hg12) hg3⟩
    · have e1 : (x.k == 1) = false := by rw [h1]; rfl
      have HE2 : Hid (E = mkB (be x.k.toNat 1) ++ mkB (strB x.s.data.toList)) := by show _ = _; rw [← HEE.out, HE.out, if_neg (by omega), mkB_append]
      have hl := strB_len x.s.data.toList
      have t1 : ¬ 9223372036854775807 < (mkB (be x.k.toNat 1)).size + (mkB (strB x.s.data.toList)).size := by rw [mkB_size, mkB_size, be_len]; omega
      clear hk HE h1 hl
      obtain ⟨S2, HS2⟩ : ∃ S, Hid (mkB (strB x.s.data.toList) = S) := ⟨_, rfl⟩
      rw [HS2.out] at HE2 t1
      obtain ⟨S1, HS1⟩ : ∃ S, Hid (mkB (be x.k.toNat 1) = S) := ⟨_, rfl⟩
      rw [HS1.out] at HE2 t1
      go_enter Try.func31, Try.ntmps31
      go_wp2_with (go_at_call 44; refine hm.mono ?_; rintro e w1 ⟨rfl, hg1⟩; have d0 := cell_g9 c0 hg1)
      refine (rnum9 x.k 1 1 wid1 w1).mono ?_
      rintro e w2 ⟨rfl, hg2⟩
      rw [hn.out, HS1.out]
      have hg12 := grown_up hg1 hg2
      have d0 := cell_g9 c0 hg12
      have d2 := cell_g9 c2 hg12
      go_wp2_with (go_at_call 45; refine (rfstr_any x.s _ s0).mono ?_; rintro e w3 ⟨rfl, hg3⟩; rw [show (⟨(strB x.s.data.toList).toArray⟩ : ByteArray) = S2 from HS2.out])
      go_ret2
      rw [HE2.out]
      exact ⟨rfl, grown_up (grown_up hga hg12) hg3⟩
end Go.Proofs.Ytamgnpmkmlhadaa
