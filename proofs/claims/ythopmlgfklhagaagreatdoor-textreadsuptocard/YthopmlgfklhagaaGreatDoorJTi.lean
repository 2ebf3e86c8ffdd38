/- Contracts, over the turned program: the value that a word is read as; whether an instruction has just these words. Conditions: those that each theorem states. -/
import Derived.Test.YthopmlgfklhagaaGreatDoorJTh
import Derived.Test.YthopmlgfklhagaaGreatDoorIPut
namespace Go.Proofs.YthopmlgfklhagaaGreatDoor
open Go.RowKit
set_option linter.unusedVariables false

/-- A value that is read of a word: of a value's own word that one. -/
def ValE (s : List UInt8) (x : V) : Prop := x.wf ∧ ∀ y : V, y.wf → okC y = true → valW y = s → x = y
theorem val_text (r l : List UInt8) (h : HexE r l) : ValE (39 :: r) ⟨2, 0, mkB l⟩ := by
  refine ⟨⟨by show (-9223372036854775808 : Int) ≤ 0; omega, by show (0 : Int) < 9223372036854775808; omega, by show (mkB l).size ≤ _; rw [mkB_size]; have := h.1; unfold maxLen; omega⟩, fun y hy hk hw => ?_⟩
  obtain ⟨k1, k2⟩ := okC_parts hk
  obtain ⟨k, n, s⟩ := y
  rcases (okV_iff _).1 k1 with ⟨h1, h2⟩ | ⟨h1, h2⟩
  · dsimp only at h1 h2
    subst h1
    exfalso
    have e : Lib.itoa n = 39 :: r := hw
    exact itoa_head n (by rw [e]; rfl)
  · dsimp only at h1 h2 k2
    subst h1 h2
    have e : 39 :: hexL s.data.toList = 39 :: r := hw
    injection e with _ e
    have := h.2 s.data.toList (by rw [Array.length_toList]; exact k2) e.symm
    rw [this, mkB_self]
theorem val_num (w : List UInt8) (z : Int) (hh : w.headD 0 ≠ 39) (h : NumE w z) : ValE w ⟨1, z, mkB []⟩ := by
  refine ⟨⟨h.1, h.2.1, by show (mkB []).size ≤ _; rw [mkB_size]; unfold maxLen; simp⟩, fun y hy hk hw => ?_⟩
  obtain ⟨k1, k2⟩ := okC_parts hk
  obtain ⟨k, n, s⟩ := y
  rcases (okV_iff _).1 k1 with ⟨h1, h2⟩ | ⟨h1, h2⟩
  · dsimp only at h1 h2
    have hs : s = mkB [] := by rw [← mkB_self s, h2]
    subst h1 hs
    have e : Lib.itoa n = w := hw
    rw [h.2.2 n hy.n0 hy.n1 e.symm]
  · dsimp only at h1 h2 k2
    subst h1 h2
    exfalso
    have e : 39 :: hexL s.data.toList = w := hw
    exact hh (by rw [← e]; rfl)
theorem prefix_one (s : List UInt8) : (Lib.hasPrefix s [39] = true ∧ ∃ r, s = 39 :: r ∧ Lib.trimPrefix s [39] = r) ∨ (Lib.hasPrefix s [39] = false ∧ s.headD 0 ≠ 39 ∧ Lib.trimPrefix s [39] = s) := by
  cases s with
  | nil => exact .inr ⟨rfl, by decide, rfl⟩
  | cons c r =>
    by_cases h : c = 39
    · subst h
      exact .inl ⟨by simp [Lib.hasPrefix], r, rfl, by simp [Lib.trimPrefix, Lib.hasPrefix]⟩
    · have h1 : ((39 : UInt8) == c) = false := by rw [beq_eq_false_iff_ne]; exact fun e => h e.symm
      have h2 : Lib.hasPrefix (c :: r) [39] = false := by
        show ((39 : UInt8) == c && List.isPrefixOf [] r) = false
        rw [h1]
        rfl
      exact .inr ⟨h2, h, by unfold Lib.trimPrefix; rw [h2]; rfl⟩

set_option maxRecDepth 100000 in
set_option maxHeartbeats 1000000 in
theorem valueOf_any (s : ByteArray) (w : World) (hs : s.size ≤ 1099511627776) (hG : G14 w) :
    Calls Tryz.prog 26 #[.string s] w fun e w' => (∃ x : V, e = .returned x.val ∧ ValE s.data.toList x) ∧ w.grownBy w' none := by
  have hga := World.grownBy_alloc w (.cells #[.int .i64 0, .int .i64 0, .string ⟨#[]⟩] 33) none
  have hV : Vb (w.alloc (.cells #[.int .i64 0, .int .i64 0, .string ⟨#[]⟩] 33)) w.heap.size ⟨0, 0, ⟨#[]⟩⟩ := Vb.new w ⟨0, 0, ⟨#[]⟩⟩
  have hG1 := hG.keptN hga
  have hl : s.data.toList.length = s.size := Array.length_toList
  have hp := prefix_one s.data.toList
  have Hc := hide (strings_CutPrefix s ⟨#[39]⟩)
  obtain ⟨S, HS⟩ : ∃ S, Hid (s.data.toList = S) := ⟨_, rfl⟩
  have HV := hide hV
  rcases hp with ⟨h1, r, h2, h3⟩ | ⟨h1, h2, h3⟩
  · have hc : ∀ W : World, Calls Tryz.prog 47 #[.string s, .string ⟨#[39]⟩] W fun e w' => e = .returned (.tuple #[.string (mkB r), .bool true]) ∧ w' = W := by
      intro W
      have h := Hc.out W
      have e1 : Lib.trimPrefix s.data.toList (⟨#[39]⟩ : ByteArray).data.toList = r := h3
      have e2 : Lib.hasPrefix s.data.toList (⟨#[39]⟩ : ByteArray).data.toList = true := h1
      rw [e1, e2] at h
      exact h
    have Hcc := hide hc
    have hrl : (mkB r).size ≤ 1099511627776 := by
      rw [mkB_size]
      rw [h2] at hl
      simp only [List.length_cons] at hl
      omega
    have Hb := hide (fun W => bytesOf_any (mkB r) W hrl)
    have HS2 : Hid (S = 39 :: r) := by show _ = _; rw [← HS.out, h2]
    rw [HS.out]
    clear hc h1 h2 h3 hl hs Hc hG hG1 hV
    generalize hX : mkB r = X at *
    have HX := hide hX
    clear hX
    go_enter Tryz.func26, Tryz.ntmps26
    go_wp2_with (first
      | (go_at_call 47; refine (Hcc.out _).mono ?_; rintro e w1 ⟨rfl, rfl⟩)
      | (go_at_call 48; refine (Hb.out _).mono ?_; rintro e w2 ⟨⟨l, rfl, hl⟩, hg2⟩; have Hl := hide hl; clear hl; have hV2 := HV.out.kept hg2 (by simp); have d0 := hV2.c0; have d1 := hV2.c1; have d2 := hV2.c2; have f0 := hV2.fz 0; have f1 := hV2.fz 1; have f2 := hV2.fz 2; dsimp only at d0 d1 d2))
    have hE := hV2.store3 ⟨2, 0, mkB l⟩
    refine bodyPost_ret (results_v1 rfl _ w.heap.size _ ⟨2, 0, mkB l⟩ rfl hE.1) rfl ?_
    refine ⟨⟨_, rfl, ?_⟩, grown_new (grown_up hga hg2) hE.2 (fun k e => by cases e; exact Nat.le_refl _)⟩
    rw [HS2.out]
    have h4 := Hl.out
    rw [← HX.out, mkB_list] at h4
    exact val_text r l h4
  · have hc : ∀ W : World, Calls Tryz.prog 47 #[.string s, .string ⟨#[39]⟩] W fun e w' => e = .returned (.tuple #[.string s, .bool false]) ∧ w' = W := by
      intro W
      have h := Hc.out W
      have e1 : Lib.trimPrefix s.data.toList (⟨#[39]⟩ : ByteArray).data.toList = s.data.toList := h3
      have e2 : Lib.hasPrefix s.data.toList (⟨#[39]⟩ : ByteArray).data.toList = false := h1
      rw [e1, e2] at h
      exact h
    have Hcc := hide hc
    have Hn := hide (numberOf_any s _ hs hG1)
    have HS2 : Hid (S.headD 0 ≠ 39) := by show _ ≠ _; rw [← HS.out]; exact h2
    rw [HS.out] at Hn ⊢
    clear hc h1 h2 h3 hl hs Hc hG hG1 hV
    go_enter Tryz.func26, Tryz.ntmps26
    go_wp2_with (first
      | (go_at_call 47; refine (Hcc.out _).mono ?_; rintro e w1 ⟨rfl, rfl⟩)
      | (go_at_call 25; refine (Hn.out).mono ?_; rintro e w2 ⟨⟨z, rfl, hz⟩, hg2⟩; have Hz := hide hz; clear hz; have hV2 := HV.out.kept hg2 (by simp); have d0 := hV2.c0; have d1 := hV2.c1; have d2 := hV2.c2; have f0 := hV2.fz 0; have f1 := hV2.fz 1; have f2 := hV2.fz 2; dsimp only at d0 d1 d2))
    have hE := hV2.store3 ⟨1, z, ⟨#[]⟩⟩
    refine bodyPost_ret (results_v1 rfl _ w.heap.size _ ⟨1, z, ⟨#[]⟩⟩ rfl hE.1) rfl ?_
    exact ⟨⟨_, rfl, val_num S z HS2.out Hz.out⟩, grown_new (grown_up hga hg2) hE.2 (fun k e => by cases e; exact Nat.le_refl _)⟩

theorem ins_lit (w : World) (x : In) : Ins (w.alloc (.cells #[.int .i64 x.op, .int .i64 x.a, .int .i64 x.b, .int .i64 x.c, .int .i64 x.v.k, .int .i64 x.v.n, .string x.v.s] 35)) (.slice (some ⟨w.heap.size, 0, none⟩) 1 1) [x] := by
  refine ⟨some ⟨w.heap.size, 0, none⟩, 1, rfl, by simp, by unfold maxLen; omega, fun i hi => ⟨w.heap.size, 0, rfl, by simp, fun j u hu => ?_⟩⟩
  obtain rfl : i = 0 := by simpa using hi
  have hj : j < 7 := by have := (List.getElem?_eq_some_iff.1 hu).1; simpa [In.cells] using this
  have hu : (In.cells x)[j]? = some u := hu
  obtain ⟨c0, c1, c2, c3, c4, c5, c6⟩ := (Ib.new w x).cs
  rw [show 0 + 0 * 7 + j = j by omega]
  rcases (by omega : j = 0 ∨ j = 1 ∨ j = 2 ∨ j = 3 ∨ j = 4 ∨ j = 5 ∨ j = 6) with rfl | rfl | rfl | rfl | rfl | rfl | rfl
  · rw [← hu]; exact c0
  · rw [← hu]; exact c1
  · rw [← hu]; exact c2
  · rw [← hu]; exact c3
  · rw [← hu]; exact c4
  · rw [← hu]; exact c5
  · rw [← hu]; exact c6
/-- Words in memory. -/
def Wds (w : World) (v : Value) (ws : List (List UInt8)) : Prop := Sl Value.string w.heap.size w v (ws.map mkB)
theorem Wds.kept {w w' : World} {v : Value} {ws : List (List UInt8)} (h : Wds w v ws) (hg : w.grownBy w' none) : Wds w' v ws := by
  obtain ⟨a, c, e, h1, h2, h3⟩ := Sl.keptN h (Kp.ofN hg _)
  exact ⟨a, c, e, h1, h2, fun i hi => by obtain ⟨b, off, k1, k2, k3⟩ := h3 i hi; exact ⟨b, off, k1, Nat.lt_of_lt_of_le k2 hg.size, k3⟩⟩
theorem mkB_inj {a b : List UInt8} (h : mkB a = mkB b) : a = b := by rw [← mkB_list a, h, mkB_list]
theorem map_mkB_inj : ∀ {a b : List (List UInt8)}, a.map mkB = b.map mkB → a = b
  | [], [], _ => rfl
  | [], _ :: _, h => by simp at h
  | _ :: _, [], h => by simp at h
  | x :: a, y :: b, h => by
    simp only [List.map_cons, List.cons.injEq] at h
    rw [mkB_inj h.1, map_mkB_inj h.2]
/-- slices.Equal of two lists of words. -/
theorem equal_words (v v' : Value) (a b : List (List UInt8)) (w : World) (ha : Wds w v a) (hb : Wds w v' b) (hna : a ≠ []) (hnb : b ≠ []) :
    Calls Tryz.prog 49 #[v, v'] w fun e w' => e = .returned (.bool (decide (a = b))) ∧ w.grownBy w' none := by
  obtain ⟨p, c, rfl, h1, h2, h3⟩ := ha
  obtain ⟨p', c', rfl, g1, g2, g3⟩ := hb
  have l1 : 0 < (a.map mkB).length := by rw [List.length_map]; exact List.length_pos_iff.2 hna
  have l2 : 0 < (b.map mkB).length := by rw [List.length_map]; exact List.length_pos_iff.2 hnb
  obtain ⟨q, off, rfl, _, _⟩ := h3 0 l1
  obtain ⟨q', off', rfl, _, _⟩ := g3 0 l2
  unfold maxLen at h2 g2
  refine (slices_Equal_string q off _ c q' off' _ c' (a.map mkB) (b.map mkB) w (Nat.le_refl _) (Nat.le_refl _) (by omega) (by omega) (fun j hj => ?_) (fun j hj => ?_)).mono ?_
  · obtain ⟨b1, o1, e, _, k⟩ := h3 j hj
    cases e
    rw [k, List.getD_eq_getElem?_getD, List.getElem?_eq_getElem hj]
    rfl
  · obtain ⟨b1, o1, e, _, k⟩ := g3 j hj
    cases e
    rw [k, List.getD_eq_getElem?_getD, List.getElem?_eq_getElem hj]
    rfl
  · rintro e w' ⟨rfl, n, rfl⟩
    refine ⟨?_, (Kp.drewN none' _ _).grown⟩
    rw [List.take_length, List.take_length]
    congr 2
    rw [decide_eq_decide]
    exact ⟨map_mkB_inj, fun h => by rw [h]⟩

/-- Has an instruction that may be just these words? -/
def isSp (x : In) (ws : List (List UInt8)) : Bool := okI x && decide (ws = wordsI x)
set_option maxRecDepth 100000 in
set_option maxHeartbeats 1000000 in
theorem isSpelt_any (x : In) (v : Value) (ws : List (List UInt8)) (w : World) (hx : x.wf) (hS : Wds w v ws) (hne : ws ≠ []) (hG : G14 w) :
    Calls Tryz.prog 27 #[x.val, v] w fun e w' => e = .returned (.bool (isSp x ws)) ∧ w.grownBy w' none := by
  have hb1 := Ib.new w x
  have hga := World.grownBy_alloc w (.cells #[.int .i64 x.op, .int .i64 x.a, .int .i64 x.b, .int .i64 x.c, .int .i64 x.v.k, .int .i64 x.v.n, .string x.v.s] 35) none
  have hgb := World.grownBy_alloc (w.alloc (.cells #[.int .i64 x.op, .int .i64 x.a, .int .i64 x.b, .int .i64 x.c, .int .i64 x.v.k, .int .i64 x.v.n, .string x.v.s] 35)) (.cells #[.int .i64 x.op, .int .i64 x.a, .int .i64 x.b, .int .i64 x.c, .int .i64 x.v.k, .int .i64 x.v.n, .string x.v.s] 35) none
  have hg2 := grown_up hga hgb
  have hI := ins_lit (w.alloc (.cells #[.int .i64 x.op, .int .i64 x.a, .int .i64 x.b, .int .i64 x.c, .int .i64 x.v.k, .int .i64 x.v.n, .string x.v.s] 35)) x
  rw [World.size_alloc] at hI
  have hG2 := hG.keptN hg2
  have Hcw := hide (iwrite_any _ [x] _ hI (fun y hy => by rw [List.mem_singleton.1 hy]; exact hx) hG2.op)
  have hb2 := hb1.kept hgb (by simp)
  have HG := hide hG
  have HS := hide hS
  have Hx := hide hx
  have hok : okI x = true ↔ wiE [x] = 0 := by rw [wiE_ok]; simp [wiOk]
  obtain ⟨E, HE⟩ : ∃ E, Hid (wiE [x] = E) := ⟨_, rfl⟩
  rw [HE.out] at Hcw hok
  have Hok := hide hok
  obtain ⟨R, HR⟩ : ∃ R, Hid (isSp x ws = R) := ⟨_, rfl⟩
  rw [HR.out]
  have Hb2 := hide hb2
  obtain ⟨c0, c1, c2, c3, c4, c5, c6⟩ := hb1.cs
  unfold In.val
  clear hok hG2 hI hx hG hS hb2 hgb hb1
  by_cases h0 : E = 0
  · have Hk : Hid (okI x = true) := Hok.out.2 h0
    have Hv : Hid (R = decide (ws = wordsI x)) := by
      show _ = _
      rw [← HR.out]; unfold isSp; rw [Hk.out, Bool.true_and]
    subst h0
    go_enter Tryz.func27, Tryz.ntmps27
    go_wp2_with (first
      | (go_at_call 16; refine (Hcw.out).mono ?_; rintro e w1 ⟨rfl, hg3⟩; have hg4 := grown_up hg2 hg3; have hb3 := Hb2.out.kept hg3 (by simp); clear c0 c1 c2 c3 c4 c5 c6; obtain ⟨c0, c1, c2, c3, c4, c5, c6⟩ := hb3.cs)
      | (go_at_call 18; refine (spell_any x _ Hx.out Hk.out (HG.out.keptN hg4)).mono ?_; rintro e w2 ⟨v2, rfl, hO, hg5⟩; have hW2 : Wds w2 v2 (wordsI x) := hO.sl; have hW1 : Wds w2 v ws := (HS.out.kept hg4).kept hg5)
      | (go_at_call 49; refine (equal_words _ _ _ _ _ hW1 hW2 hne (by unfold wordsI; simp)).mono ?_; rintro e w3 ⟨rfl, hg6⟩))
    go_ret
    rw [Hv.out]
    exact ⟨rfl, grown_up (grown_up hg4 hg5) hg6⟩
  · have Hv : Hid (R = false) := by
      show _ = _
      rw [← HR.out]; unfold isSp
      cases hk : okI x with
      | false => rfl
      | true => exact absurd (Hok.out.1 hk) h0
    have h0' : (E == 0) = false := by simpa using h0
    clear h0
    go_enter Tryz.func27, Tryz.ntmps27
    go_wp2_with (go_at_call 16; refine (Hcw.out).mono ?_; rintro e w1 ⟨rfl, hg3⟩)
    go_ret
    rw [Hv.out]
    exact ⟨rfl, grown_up hg2 hg3⟩

end Go.Proofs.YthopmlgfklhagaaGreatDoor
