/- Contract, over the turned program: the document's value of a word that is a text's. Conditions: those that the theorem states. -/
import Derived.Test.YthopmlgfklhagaaGreatDoorJRg
import Derived.Test.YthopmlgfklhagaaGreatDoorJTh
namespace Go.Proofs.YthopmlgfklhagaaGreatDoor
open Go.RowKit
set_option linter.unusedVariables false

theorem nibI_some {c : UInt8} {n : Nat} (h : nibU c = some n) : nibI c = (n : Int) := by unfold nibI; rw [h]
theorem nibI_none {c : UInt8} (h : nibU c = none) : nibI c = -1 := by unfold nibI; rw [h]
/-- What a text's digits so far are. -/
def Hx (t : List UInt8) (k : Nat) (L : List UInt8) : Prop := L.length = k ∧ unhex (t.take (2 * k)) = some L
theorem two_more {t : List UInt8} {k : Nat} (h : 2 * k + 1 < t.length) : t = t.take (2 * k) ++ t[2 * k] :: t[2 * k + 1] :: t.drop (2 * k + 2) := by
  have h1 := List.take_append_drop (2 * k) t
  rw [List.drop_eq_getElem_cons (by omega), List.drop_eq_getElem_cons (by omega)] at h1
  exact h1.symm
theorem Hx.more {t L : List UInt8} {k x y : Nat} (h : Hx t k L) (hl : 2 * k + 1 < t.length) (ha : nibU t[2 * k] = some x) (hb : nibU t[2 * k + 1] = some y) : Hx t (k + 1) (L ++ [UInt8.ofNat (16 * x + y)]) := by
  refine ⟨by rw [List.length_append, h.1]; rfl, ?_⟩
  have e : t.take (2 * (k + 1)) = t.take (2 * k) ++ [t[2 * k], t[2 * k + 1]] := by
    have g1 : t.take (2 * k + 1 + 1) = t.take (2 * k + 1) ++ [t[2 * k + 1]] := List.take_succ_eq_append_getElem hl
    have g2 : t.take (2 * k + 1) = t.take (2 * k) ++ [t[2 * k]] := List.take_succ_eq_append_getElem (by omega)
    rw [show 2 * (k + 1) = 2 * k + 1 + 1 by omega, g1, g2, List.append_assoc]
    rfl
  rw [e, unhex_append _ L _ h.2, unhex_two _ _ x y ha hb]
  rfl
theorem Hx.bad {t L : List UInt8} {k : Nat} (h : Hx t k L) (hl : 2 * k + 1 < t.length) (hn : nibU t[2 * k] = none ∨ nibU t[2 * k + 1] = none) : unhex t = none := by
  rw [two_more hl, unhex_append _ L _ h.2, unhex_bad _ _ _ hn]
  rfl

set_option maxRecDepth 100000 in
set_option maxHeartbeats 1000000 in
theorem runval_odd (s : ByteArray) (t : List UInt8) (w : World) (hs : s.size ≤ 1099511627776) (hst : s.data.toList = 39 :: t) (he : t.length % 2 = 0) :
    Calls Tryz.prog 32 #[.string s] w fun e w' => UnP (valU s.data.toList) e ∧ w.grownBy w' none := by
  have hga := World.grownBy_alloc w (.cells #[.int .i64 0, .int .i64 0, .string ⟨#[]⟩] 33) none
  have hV : Vb (w.alloc (.cells #[.int .i64 0, .int .i64 0, .string ⟨#[]⟩] 33)) w.heap.size ⟨0, 0, ⟨#[]⟩⟩ := Vb.new w ⟨0, 0, ⟨#[]⟩⟩
  have hl : s.data.toList.length = s.size := Array.length_toList
  have hsz : s.size = t.length + 1 := by rw [← hl, hst]; rfl
  have h0 : 0 < s.size := by omega
  have h0' : (0 : Int) < (s.size : Int) := by omega
  have e1 : (s.toList == []) = false := by rw [ByteArray.toList_eq, hst]; rfl
  have e2 : s.toList.isEmpty = false := by rw [ByteArray.toList_eq, hst]; rfl
  have hne : ((s[0].toNat : Int) != 39) = false := by
    have h1 := head_of s h0
    rw [hst] at h1
    have h2 : (39 : UInt8) = s[0] := h1
    rw [← h2]
    rfl
  have hev : (s.size : Int) % 2 = 1 := by omega
  have hev3 : ((s.size : Int) % 2 == 0) = false := by rw [hev]; rfl
  have Hsz := hide hsz
  have Hat : Hid (∀ j (h : j < s.size) (h2 : j - 1 < t.length), 0 < j → s[j] = t[j - 1]) := by
    intro j h h2 hj
    have g1 := sgetQ s j h
    rw [hst] at g1
    obtain ⟨m, rfl⟩ : ∃ m, j = m + 1 := ⟨j - 1, by omega⟩
    rw [List.getElem?_cons_succ, List.getElem?_eq_getElem (by simpa using h2)] at g1
    exact (Option.some.inj g1).symm
  have Hod := hide he
  have Hval : Hid (valU s.data.toList = valU (39 :: t)) := by show _ = _; rw [hst]
  clear hl hst he hev hsz
  have hbW : w.heap.size + 1 ≤ (w.alloc (.cells #[.int .i64 0, .int .i64 0, .string ⟨#[]⟩] 33)).heap.size := by simp
  have HWs : Hid ((w.alloc (.cells #[.int .i64 0, .int .i64 0, .string ⟨#[]⟩] 33)).heap.size = w.heap.size + 1) := by show _ = _; simp
  generalize hW1 : w.alloc (.cells #[.int .i64 0, .int .i64 0, .string ⟨#[]⟩] 33) = W1 at *
  have HW1 := hide hW1
  clear hW1
  go_enter Tryz.func32, Tryz.ntmps32
  go_upto_region 1 with fail
  rw [HW1.out]
  go_wp2_with fail
  go_loopw [6, 7] (fun b i wr => ∃ (k m : Nat) (L : List UInt8), i = .int .i64 (m : Int) ∧ m ≤ s.size ∧ Own 5 wr (w.heap.size + 1) b L ∧ W1.grownBy wr none ∧ Hid (m = 2 * k + 1 ∧ Hx t k L)) (fun _ i _ => s.size - (intOf i).toNat)
  case atStart => exact ⟨0, 1, [], rfl, h0, Own.nil _ _ _, World.grownBy.refl _ _, rfl, rfl, rfl⟩
  case round =>
    obtain ⟨k, m, L, rfl, hm, hO, hg, HX⟩ := hrel
    have hVr := hV.kept hg (by simp)
    have d0 := hVr.c0; have d1 := hVr.c1; have d2 := hVr.c2; have f0 := hVr.fz 0; have f1 := hVr.fz 1; have f2 := hVr.fz 2
    dsimp only at d0 d1 d2
    by_cases hlt : m < s.size
    · have hk2 : 2 * k + 1 < t.length := by have := HX.out.1; have := Hsz.out; have := Hod.out; omega
      have hm1 : m + 1 < s.size := by have := HX.out.1; have := Hsz.out; omega
      obtain ⟨m1, Hm1⟩ : ∃ m1, Hid (m1 = m + 1) := ⟨_, rfl⟩
      have hml1 : m1 < s.size := by have := Hm1.out; omega
      have hw1 : wrap64 ((m : Int) + 1) = (m1 : Int) := by have := Hm1.out; unfold wrap64; omega
      have hw2 : IntKind.i64.wrap ((m : Int) + 1) = (m1 : Int) := by have := Hm1.out; rw [IntKind.wrap_i64]; omega
      have ea : s[m] = t[2 * k] := by
        have h1 := HX.out.1
        have h2 := Hat.out m hlt (by omega) (by omega)
        rw [h2]
        congr 1
        omega
      have eb : s[m1] = t[2 * k + 1] := by
        have h1 := HX.out.1
        have h3 := Hm1.out
        have h2 := Hat.out m1 hml1 (by omega) (by omega)
        rw [h2]
        congr 1
        omega
      have Hn : Hid (∀ W (c : UInt8), Calls Tryz.prog 50 #[.int .u8 (c.toNat : Int)] W fun e w' => e = .returned (.int .i64 (nibI c)) ∧ W.grownBy w' none) := fun W c => rnibble_any c W
      have Hea := hide ea
      have Heb := hide eb
      clear ea eb hm1
      obtain ⟨a0, cp, e0⟩ := own_slice hO
      subst e0
      go_upto_region 10 with fail
      have dr : wr.grownBy wr.drew none := grown_drew wr
      go_region_held_law (fun W => wr.grownBy W none) (first | assumption | exact dr) ((go_at_call 50; refine (Hn.out _ _).mono ?_; rintro e w3 ⟨rfl, hg3⟩; have hS : wr.grownBy w3 none := grown_up (by assumption) hg3))
      all_goals (
      have Hpq : Hid ((nibU t[2 * k] = none ∨ nibU t[2 * k + 1] = none) ∧ (nibI s[m] < 0 ∨ (0 ≤ nibI s[m] ∧ nibI s[m1] < 0)) ∨ ∃ x y, nibU t[2 * k] = some x ∧ nibU t[2 * k + 1] = some y ∧ x < 16 ∧ y < 16 ∧ nibI s[m] = (x : Int) ∧ nibI s[m1] = (y : Int)) := by
        have q1 := Hea.out
        have q2 := Heb.out
        rw [q1, q2]
        cases ha : nibU t[2 * k] with
        | none => exact .inl ⟨.inl rfl, .inl (by rw [nibI_none ha]; omega)⟩
        | some x =>
          cases hb : nibU t[2 * k + 1] with
          | none => exact .inl ⟨.inr rfl, .inr ⟨by rw [nibI_some ha]; omega, by rw [nibI_none hb]; omega⟩⟩
          | some y => exact .inr ⟨x, y, rfl, rfl, (hex_nib ha).2, (hex_nib hb).2, nibI_some ha, nibI_some hb⟩
      generalize nibI s[m] = p at *
      generalize nibI s[m1] = q at *
      have hVw := hV.kept (grown_up hg hS) (by simp)
      have z0 := hVw.c0; have z1 := hVw.c1; have z2 := hVw.c2; have y0 := hVw.fz 0; have y1 := hVw.fz 1; have y2 := hVw.fz 2
      dsimp only at z0 z1 z2
      rcases Hpq.out with ⟨hno, hb⟩ | ⟨x, y, hx, hy, hx16, hy16, rfl, rfl⟩
      · have Hb : Hid (valU s.data.toList = none) := by
          show _ = _
          rw [Hval.out]
          exact valU_bad (HX.out.2.bad hk2 hno)
        have hE := hVw.store3 ⟨0, 0, ⟨#[]⟩⟩
        rcases hb with hb | ⟨hb1, hb⟩
        · go_wp2_with fail
          refine bodyPost_ret (results_vb rfl _ w.heap.size _ ⟨0, 0, ⟨#[]⟩⟩ _ rfl rfl hE.1) rfl ?_
          exact ⟨unP_none _ Hb.out, grown_new (grown_up hga (grown_up hg hS)) hE.2 (fun k e => by cases e; exact Nat.le_refl _)⟩
        · have hb2 : ¬ p < 0 := by omega
          go_wp2_with fail
          refine bodyPost_ret (results_vb rfl _ w.heap.size _ ⟨0, 0, ⟨#[]⟩⟩ _ rfl rfl hE.1) rfl ?_
          exact ⟨unP_none _ Hb.out, grown_new (grown_up hga (grown_up hg hS)) hE.2 (fun k e => by cases e; exact Nat.le_refl _)⟩
      · obtain ⟨X, hX, HX2⟩ : ∃ X : UInt8, (16 * (x : Int) + (y : Int)) = (X.toNat : Int) ∧ Hid (Hx t (k + 1) (L ++ [X])) := by
          refine ⟨UInt8.ofNat (16 * x + y), ?_, HX.out.2.more hk2 hx hy⟩
          rw [UInt8.toNat_ofNat']
          omega
        have hgs := grown_up hg hS
        have hbs : w.heap.size + 1 ≤ w3.heap.size := Nat.le_trans hbW hgs.size
        have hLl : L.length ≤ 1099511627776 := by have := HX.out.2.1; have := Hsz.out; omega
        obtain ⟨v', w', hr, hO', hg', hv'⟩ := bw_app (w3.alloc (.cells #[.int .u8 (16 * (x : Int) + (y : Int))] 5)) (w.heap.size + 1) _ L 45 45 45 Tryz.underlying45 (.inl ((hO.kept hS (by cases a0 <;> simp [Value.ownBlock])).alloc _)) _ [X] (src_oneV w3 45 5 Tryz.underlying45 X _ hX w3.heap.size rfl) (by simp) (by simp; omega) (by simp; omega)
        have hgw : W1.grownBy w' none := grown_trans (grown_trans hgs (World.grownBy_alloc w3 (.cells #[.int .u8 (16 * (x : Int) + (y : Int))] 5) none) (.inl rfl)) hg' (by
          cases hu : (Value.slice a0 L.length cp).ownBlock with
          | none => exact .inl rfl
          | some z => exact .inr ⟨z, rfl, by have := (hO.lt z hu).1; have := HWs.out; omega⟩)
        clear hO hX hgs hbs
        go_wp2_with (at_builtin; refine iwpList_app_at rfl (.tmp 52) (.tmp 58) 45 45 rfl _ _ rfl rfl hr ?_)
        go_roundw
        case rel => exact ⟨k + 1, m + 2, _, by go_num, by have := Hm1.out; have := HX.out.1; have := Hsz.out; have := Hod.out; omega, hO', hgw, by have := HX.out.1; omega, HX2.out⟩
        case measure => simp [intOf]; omega)
    · have hfin : Hid (unhex t = some L) := by
        have h1 := HX.out.2.2
        rw [List.take_of_length_le (by have := HX.out.1; have := Hsz.out; omega)] at h1
        exact h1
      have Hb : Hid (UnP (valU s.data.toList) (.returned (.tuple #[(⟨2, 0, mkB L⟩ : V).val, .bool true]))) := by
        show UnP _ _
        rw [Hval.out]
        exact unP_text hfin.out
      have hcv := run_convert_own wr 45 9 5 Tryz.underlying45 Tryz.underlying5 Tryz.underlying9 hO
      clear hO
      have hE := hVr.store3 ⟨2, 0, mkB L⟩
      go_wp2_with fail
      refine bodyPost_ret (results_vb rfl _ w.heap.size _ ⟨2, 0, mkB L⟩ _ rfl rfl hE.1) rfl ?_
      exact ⟨Hb.out, grown_new (grown_up hga hg) hE.2 (fun k e => by cases e; exact Nat.le_refl _)⟩

theorem runvalue_any (s : ByteArray) (w : World) (hs : s.size ≤ 1099511627776) :
    Calls Tryz.prog 32 #[.string s] w fun e w' => UnP (valU s.data.toList) e ∧ w.grownBy w' none := by
  by_cases hh : s.data.toList.headD 0 = 39
  · obtain ⟨t, ht⟩ : ∃ t, s.data.toList = 39 :: t := by
      cases hd : s.data.toList with
      | nil => rw [hd] at hh; exact absurd hh (by decide)
      | cons c t =>
        rw [hd] at hh
        have hh : c = 39 := hh
        exact ⟨t, by rw [hh]⟩
    rcases Nat.mod_two_eq_zero_or_one t.length with h | h
    · exact runval_odd s t w hs ht h
    · exact runval_even s t w hs ht h
  · exact runval_num s w hs hh

end Go.Proofs.YthopmlgfklhagaaGreatDoor
