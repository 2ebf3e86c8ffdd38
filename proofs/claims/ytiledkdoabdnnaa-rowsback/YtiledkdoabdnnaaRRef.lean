/- Contracts, over the turned program: the reference's Is, Right, Fits, Key and Write of layer 3 answer as the plain words say. Conditions: those that each theorem states. -/
import Derived.Test.YtiledkdoabdnnaaRRow
import Derived.Test.YtiledkdoabdnnaaKRef
namespace Go.Proofs.Ytiledkdoabdnnaa
open Go.RowKit
set_option linter.unusedVariables false

set_option maxRecDepth 100000 in
set_option maxHeartbeats 400000 in
theorem is_any (k : Int) (x : V) (w : World) (hx : x.wf) :
    Calls Try.prog 25 #[.int .i64 k, x.val] w fun e w' => e = .returned (.bool (fitV k x)) ∧ w.grownBy w' none := by
  have hV := Vb.new w x
  have hga := World.grownBy_alloc w (.cells #[.int .i64 x.k, .int .i64 x.n, .string x.s] 29) none
  have hs0 := hx.s0
  unfold maxLen at hs0
  by_cases hk : x.k = k
  · have hk' : (x.k == k) = true := by simp [hk]
    by_cases ho : okV x = true
    · have He : Hid (fitV k x = decide (x.s.size ≤ 10)) := by show _ = _; unfold fitV; rw [hk', ho]; simp
      clear hk
      have hd : Hid (decide ((x.s.size : Int) ≤ 10) = decide (x.s.size ≤ 10)) := by
        show _ = _
        by_cases h : x.s.size ≤ 10
        · rw [decide_eq_true h, decide_eq_true (by omega)]
        · rw [decide_eq_false h, decide_eq_false (by omega)]
      unfold V.val
      go_enter Try.func25, Try.ntmps25
      go_wp2_with (go_at_call 42; refine (right_any x _).mono ?_; rintro e w1 ⟨rfl, hg1⟩; rw [ho]; have c2 := (hV.kept hg1 (by simp)).c2)
      go_ret
      rw [He.out, ← hd.out]
      exact ⟨rfl, grown_up hga hg1⟩
    · have ho' : okV x = false := by simpa using ho
      have He : fitV k x = false := by unfold fitV; rw [ho']; simp
      rw [He]
      clear hk
      unfold V.val
      go_enter Try.func25, Try.ntmps25
      go_wp2_with (go_at_call 42; refine (right_any x _).mono ?_; rintro e w1 ⟨rfl, hg1⟩; rw [ho'])
      go_ret
      exact ⟨rfl, grown_up hga hg1⟩
  · have hk' : (x.k == k) = false := by simp [hk]
    have He : fitV k x = false := by unfold fitV; rw [hk']; rfl
    rw [He]
    unfold V.val
    go_enter Try.func25, Try.ntmps25
    go_wp2
    go_ret
    exact ⟨rfl, hga⟩

theorem rightS_false {ks : List Int} {u x : Int} (h : ¬ (1 ≤ (ks.length : Int) ∧ (ks.length : Int) ≤ 4 ∧ 0 ≤ u ∧ u < ks.length ∧ 0 ≤ x ∧ x < ks.length)) : rightS ks u x = false := by
  rw [← Bool.not_eq_true]
  intro h2
  apply h
  unfold rightS rightK rightX rightC at h2
  simp only [Bool.and_eq_true, decide_eq_true_eq] at h2
  omega
theorem rightS_eq {ks : List Int} {u x : Int} (h1 : 1 ≤ (ks.length : Int)) (h2 : (ks.length : Int) ≤ 4) (h3 : 0 ≤ u) (h4 : u < ks.length) (h5 : 0 ≤ x) (h6 : x < ks.length) : rightS ks u x = (ks.all okK && (x == 0 || ks[x.toNat]? == some 1)) := by
  unfold rightS rightK rightX rightC
  rw [decide_eq_true (by omega : 1 ≤ ks.length ∧ ks.length ≤ 4), decide_eq_true ⟨h3, h4⟩, decide_eq_true ⟨h5, h6⟩]
  simp

set_option maxRecDepth 100000 in
set_option maxHeartbeats 800000 in
theorem rright_any (v : Value) (ks : List Int) (u x : Int) (w : World) (h : Kd w v ks) :
    Calls Try.prog 13 #[sval v u x] w fun e w' => e = .returned (.bool (rightS ks u x)) ∧ w.grownBy w' none := by
  have hga := World.grownBy_alloc w (.cells #[v, .int .i64 u, .int .i64 x] 24) none
  have hS := Sb.new w v u x
  obtain ⟨a, c, rfl, hc, hm, hL⟩ := h.keptN hga
  have hlm : ks.length ≤ maxLen := Nat.le_trans hc hm
  unfold maxLen at hlm
  have c0 := hS.c0
  have c1 := hS.c1
  have c2 := hS.c2
  unfold sval
  clear hc hm h
  by_cases h1 : (ks.length : Int) < 1
  · rw [rightS_false (by omega)]
    go_enter Try.func13, Try.ntmps13
    go_wp2
    go_ret
    exact ⟨rfl, hga⟩
  by_cases h2 : 4 < (ks.length : Int)
  · rw [rightS_false (by omega)]
    go_enter Try.func13, Try.ntmps13
    go_wp2
    go_ret
    exact ⟨rfl, hga⟩
  by_cases h3 : u < 0
  · rw [rightS_false (by omega)]
    go_enter Try.func13, Try.ntmps13
    go_wp2
    go_ret
    exact ⟨rfl, hga⟩
  by_cases h4 : (ks.length : Int) ≤ u
  · rw [rightS_false (by omega)]
    go_enter Try.func13, Try.ntmps13
    go_wp2
    go_ret
    exact ⟨rfl, hga⟩
  by_cases h5 : x < 0
  · rw [rightS_false (by omega)]
    go_enter Try.func13, Try.ntmps13
    go_wp2
    go_ret
    exact ⟨rfl, hga⟩
  by_cases h6 : (ks.length : Int) ≤ x
  · rw [rightS_false (by omega)]
    go_enter Try.func13, Try.ntmps13
    go_wp2
    go_ret
    exact ⟨rfl, hga⟩
  have He : Hid (rightS ks u x = (ks.all okK && (x == 0 || ks[x.toNat]? == some 1))) := rightS_eq (by omega) (by omega) (by omega) (by omega) (by omega) (by omega)
  obtain ⟨n, rfl⟩ : ∃ n : Nat, x = (n : Int) := ⟨x.toNat, by omega⟩
  have hn : n < ks.length := by omega
  obtain ⟨wa, Ha⟩ : ∃ wa, Hid (wa = w.alloc (.cells #[.slice a ks.length c, .int .i64 u, .int .i64 (n : Int)] 24)) := ⟨_, rfl⟩
  rw [← Ha.out] at hga hS hL c0 c1 c2
  go_enter Try.func13, Try.ntmps13
  go_wp2_with fail
  rw [← Ha.out]
  go_loop [4] (fun i => ∃ j : Nat, j ≤ ks.length ∧ i = .int .i64 j ∧ Hid ((ks.take j).all okK = true)) (fun i => ks.length - (intOf i).toNat)
  case atStart => exact ⟨0, Nat.zero_le _, rfl, by show _ = _; simp⟩
  case round =>
    obtain ⟨j, hj, rfl, Hok⟩ := hrel
    by_cases hlt : j < ks.length
    · obtain ⟨b, off, rfl, hb, k0⟩ := hL j hlt
      have hji : (j : Int) < (ks.length : Int) := by omega
      have Hall : Hid ((ks.take (j + 1)).all okK = okK ks[j]) := by
        show _ = _
        rw [List.take_succ_eq_append_getElem hlt, List.all_append, Hok.out]
        simp
      have Hbad : Hid (okK ks[j] = false → ks.all okK = false) := by
        intro h
        rw [List.all_eq_false]
        exact ⟨ks[j], List.getElem_mem hlt, by simp [h]⟩
      generalize ks[j] = k at *
      clear hL
      by_cases k1 : k = 1
      · subst k1
        go_wp2
        go_round
        case rel => exact ⟨j + 1, by omega, by go_num, by show _ = _; rw [Hall.out]; rfl⟩
        case measure => simp [intOf]; omega
      · by_cases k2 : k = 2
        · subst k2
          go_wp2
          go_round
          case rel => exact ⟨j + 1, by omega, by go_num, by show _ = _; rw [Hall.out]; rfl⟩
          case measure => simp [intOf]; omega
        · have e1 : (k != 1) = true := by simp [k1]
          have e2 : (k != 2) = true := by simp [k2]
          go_wp2
          go_ret
          rw [He.out, Hbad.out (by simp [okK, k1, k2])]
          exact ⟨rfl, hga⟩
    · have hji : ¬ (j : Int) < (ks.length : Int) := by omega
      have ej : ks.take j = ks := List.take_of_length_le (by omega)
      rw [ej] at Hok
      obtain ⟨b, off, rfl, hb, k0⟩ := hL n hn
      by_cases h0 : n = 0
      · subst h0
        have He0 : Hid (rightS ks u 0 = true) := by have h := He.out; rw [Hok.out] at h; exact h.trans rfl
        go_wp2
        go_ret
        rw [He0.out]
        exact ⟨rfl, hga⟩
      · have e0 : ((n : Int) == 0) = false := by simp [h0]
        have He2 : Hid (rightS ks u (n : Int) = (ks[n] == 1)) := by
          show _ = _
          rw [He.out, Hok.out, e0, Int.toNat_natCast, List.getElem?_eq_getElem hn]
          simp
        generalize ks[n] = k at *
        clear hL h0
        by_cases k1 : k = 1
        · subst k1
          go_wp2
          go_ret
          rw [He2.out]
          exact ⟨rfl, hga⟩
        · have e1 : (k == 1) = false := by simp [k1]
          go_wp2
          go_ret
          rw [He2.out, e1]
          exact ⟨rfl, hga⟩

set_option maxRecDepth 100000 in
set_option maxHeartbeats 400000 in
theorem rfits_row (kv : Value) (ks : List Int) (u x : Int) (v : Value) (l : List V) (w : World) (hK : Kd w kv ks) (hT : Tup w v l) (hwf : ∀ y ∈ l, y.wf) :
    Calls Try.prog 15 #[sval kv u x, v] w fun e w' => e = .returned (.int .i64 (fitE ks u x l)) ∧ w.grownBy w' none := by
  have hga := World.grownBy_alloc w (.cells #[kv, .int .i64 u, .int .i64 x] 24) none
  have hS := Sb.new w kv u x
  have hKa := hK.keptN hga
  have hTa := hT.keptN hga
  unfold sval
  by_cases hr : rightS ks u x = true
  · obtain ⟨a, c, rfl, hc, hm, hL⟩ := hTa
    have hlm : l.length ≤ maxLen := Nat.le_trans hc hm
    obtain ⟨ka, kc, rfl, hkc, hkm, hkL⟩ := hKa
    have hklm : ks.length ≤ maxLen := Nat.le_trans hkc hkm
    unfold maxLen at hlm hklm
    have hKb := hK.keptN hga
    obtain ⟨wa, Ha⟩ : ∃ wa, Hid (wa = w.alloc (.cells #[.slice ka ks.length kc, .int .i64 u, .int .i64 x] 24)) := ⟨_, rfl⟩
    rw [← Ha.out] at hga hS hL hkL hKb
    clear hc hm hkc hkm hT hK
    by_cases hn : l.length = ks.length
    · have hn' : ((l.length : Int) != (ks.length : Int)) = false := by simp [hn]
      have HF : Hid (fitE ks u x l = if (ks.zip l).all fitP then 0 else 6) := fitE_all hr hn
      have Hn : Hid (l.length = ks.length) := hn
      have HZ : Hid ((ks.zip l).length = ks.length) := by show _ = _; rw [List.length_zip]; omega
      clear hn
      go_enter Try.func15, Try.ntmps15
      go_wp2_with fail
      rw [← Ha.out]
      refine (rright_any _ ks u x _ hKb).mono ?_
      rintro e w1 ⟨rfl, hg1⟩
      rw [hr]
      have hS1 := hS.keptN hg1
      have c0 := hS1.c0
      go_wp2_with fail
      go_loopw [5] (fun i wr => ∃ j : Nat, j ≤ ks.length ∧ i = .int .i64 j ∧ Hid (((ks.zip l).take j).all fitP = true) ∧ wa.grownBy wr none) (fun i _ => ks.length - (intOf i).toNat)
      case atStart => exact ⟨0, Nat.zero_le _, rfl, by show _ = _; simp, hg1⟩
      case round =>
        clear c0 hS1 hg1
        obtain ⟨j, hj, rfl, Hok, hg⟩ := hrel
        by_cases hlt : j < ks.length
        · have hlt2 : j < l.length := by have := Hn.out; omega
          obtain ⟨b, off, rfl, hb, c0, c1, c2⟩ := hL j hlt2
          obtain ⟨kb, koff, rfl, hkb, k0⟩ := hkL j hlt
          have hji : (j : Int) < (ks.length : Int) := by omega
          have hji2 : (j : Int) < (l.length : Int) := by omega
          have Hw : Hid (l[j].wf) := hwf l[j] (List.getElem_mem hlt2)
          have Hst : Hid (((ks.zip l).take (j + 1)).all fitP = fitV ks[j] l[j]) := by
            show _ = _
            rw [zip_step ks l j hlt hlt2, List.all_append, Hok.out]
            simp [fitP]
          have Hbad : Hid (fitV ks[j] l[j] = false → (ks.zip l).all fitP = false) := zip_bad ks l j hlt hlt2
          generalize l[j] = y at *
          generalize ks[j] = k at *
          have s0 : ∀ W : World, wr.grownBy W none → W.cell? ⟨w.heap.size, 0, none⟩ = some (.slice (some ⟨kb, koff, none⟩) ks.length kc) := fun W h => (hS.keptN (grown_up hg h)).c0
          have q0 : ∀ W : World, wr.grownBy W none → W.cell? ⟨kb, koff + j, none⟩ = some (.int .i64 k) := fun W h => (grown_cell (grown_up hg h) hkb _).trans k0
          have d0 : ∀ W : World, wr.grownBy W none → W.cell? ⟨b, off + j * 3, none⟩ = some (.int .i64 y.k) := fun W h => (grown_cell (grown_up hg h) hb _).trans c0
          have d1 : ∀ W : World, wr.grownBy W none → W.cell? ⟨b, off + j * 3 + 1, none⟩ = some (.int .i64 y.n) := fun W h => (grown_cell (grown_up hg h) hb _).trans c1
          have d2 : ∀ W : World, wr.grownBy W none → W.cell? ⟨b, off + j * 3 + 2, none⟩ = some (.string y.s) := fun W h => (grown_cell (grown_up hg h) hb _).trans c2
          have dr : wr.grownBy wr.drew none := ⟨rfl, rfl, rfl, Nat.le_refl _, fun _ _ _ => rfl⟩
          clear hL hkL c0 c1 c2 k0 hb hkb
          generalize w.heap.size = g at *
          by_cases hf : fitV k y = true
          · go_upto_region 8 with fail
            go_region_held_law (fun w' => wr.grownBy w' none) (first | assumption | exact dr) (first
              | (go_at_call 25; refine (is_any k y _ Hw.out).mono ?_; rintro e w2 ⟨rfl, hg2⟩; rw [hf]; have S2 : wr.grownBy w2 none := grown_up (by assumption) hg2))
            go_wp2_with fail
            go_roundw
            case rel => exact ⟨j + 1, by omega, by go_num, by show _ = _; rw [Hst.out]; exact hf, grown_up hg S2⟩
            case measure => simp [intOf]; omega
          · have hf' : fitV k y = false := by simpa using hf
            go_upto_region 8 with fail
            go_region_held_law (fun w' => wr.grownBy w' none) (first | assumption | exact dr) (first
              | (go_at_call 25; refine (is_any k y _ Hw.out).mono ?_; rintro e w2 ⟨rfl, hg2⟩; rw [hf']; have S2 : wr.grownBy w2 none := grown_up (by assumption) hg2))
            go_wp2
            go_ret
            rw [HF.out, Hbad.out hf']
            exact ⟨rfl, grown_up hga (grown_up hg S2)⟩
        · have hji2 : ¬ (j : Int) < (l.length : Int) := by have := Hn.out; omega
          have ej : (ks.zip l).take j = ks.zip l := List.take_of_length_le (by have := HZ.out; omega)
          rw [ej] at Hok
          go_wp2
          go_ret
          rw [HF.out, Hok.out]
          exact ⟨rfl, grown_up hga hg⟩
    · have hn' : ((l.length : Int) != (ks.length : Int)) = true := by simp; omega
      rw [fitE_len hr hn]
      go_enter Try.func15, Try.ntmps15
      go_wp2_with fail
      rw [← Ha.out]
      refine (rright_any _ ks u x _ hKb).mono ?_
      rintro e w1 ⟨rfl, hg1⟩
      rw [hr]
      have hS1 := hS.keptN hg1
      have c0 := hS1.c0
      go_wp2
      go_ret
      exact ⟨rfl, grown_up hga hg1⟩
  · have hr' : rightS ks u x = false := by simpa using hr
    rw [fitE_wrong hr']
    go_enter Try.func15, Try.ntmps15
    go_wp2_with fail
    refine (rright_any _ ks u x _ hKa).mono ?_
    rintro e w1 ⟨rfl, hg1⟩
    rw [hr']
    go_wp2
    go_ret
    exact ⟨rfl, grown_up hga hg1⟩

set_option maxRecDepth 100000 in
set_option maxHeartbeats 400000 in
theorem rkey_any (kv : Value) (ks : List Int) (u x : Int) (y : V) (w : World) (hK : Kd w kv ks) (hy : y.wf) :
    Calls Try.prog 11 #[sval kv u x, y.val] w fun e w' => e = .returned (.tuple #[.string ⟨(keyB ks u x y).toArray⟩, .int .i64 (keyE ks u x y)]) ∧ w.grownBy w' none := by
  have hga := World.grownBy_alloc w (.cells #[kv, .int .i64 u, .int .i64 x] 24) none
  have hgb := World.grownBy_alloc (w.alloc (.cells #[kv, .int .i64 u, .int .i64 x] 24)) (.cells #[.int .i64 y.k, .int .i64 y.n, .string y.s] 29) none
  have hS := (Sb.new w kv u x).keptN hgb
  have hV := Vb.new (w.alloc (.cells #[kv, .int .i64 u, .int .i64 x] 24)) y
  have hKa := (hK.keptN hga).keptN hgb
  have hgab := grown_up hga hgb
  have eg : (w.alloc (.cells #[kv, .int .i64 u, .int .i64 x] 24)).heap.size = w.heap.size + 1 := by simp
  rw [eg] at hV
  clear hga hgb eg
  obtain ⟨wa, Ha⟩ : ∃ wa, Hid (wa = (w.alloc (.cells #[kv, .int .i64 u, .int .i64 x] 24)).alloc (.cells #[.int .i64 y.k, .int .i64 y.n, .string y.s] 29)) := ⟨_, rfl⟩
  rw [← Ha.out] at hS hV hKa hgab
  obtain ⟨B, HB⟩ : ∃ B : ByteArray, Hid ((⟨(keyB ks u x y).toArray⟩ : ByteArray) = B) := ⟨_, rfl⟩
  obtain ⟨E, HE⟩ : ∃ E : Int, Hid (keyE ks u x y = E) := ⟨_, rfl⟩
  rw [HB.out, HE.out]
  unfold sval V.val
  by_cases hr : rightS ks u x = true
  · have hlen := rightS_len ks u x hr
    have h0 : 0 < ks.length := by omega
    have hKa2 := hKa
    obtain ⟨ka, kc, rfl, hkc, hkm, hkL⟩ := hKa
    have hklm : ks.length ≤ maxLen := Nat.le_trans hkc hkm
    unfold maxLen at hklm
    obtain ⟨kb, koff, rfl, hkb, k0⟩ := hkL 0 h0
    have HE2 : Hid (keyE ks u x y = if fitV ks[0] y then 0 else 6) := by show _ = _; unfold keyE; rw [hr, head_get ks h0]; rfl
    generalize ks[0] = k at *
    have hl0 : (0 : Int) < (ks.length : Int) := by omega
    have k0' : wa.cell? ⟨kb, koff, none⟩ = some (.int .i64 k) := k0
    clear hkL hkc hkm k0
    go_enter Try.func11, Try.ntmps11
    go_wp2_with fail
    rw [← Ha.out]
    refine (rright_any _ ks u x _ hKa2).mono ?_
    rintro e w1 ⟨rfl, hg1⟩
    rw [hr]
    have s0 : ∀ W : World, w1.grownBy W none → W.cell? ⟨w.heap.size, 0, none⟩ = some (.slice (some ⟨kb, koff, none⟩) ks.length kc) := fun W h => (hS.keptN (grown_up hg1 h)).c0
    have q0 : ∀ W : World, w1.grownBy W none → W.cell? ⟨kb, koff, none⟩ = some (.int .i64 k) := fun W h => (grown_cell (grown_up hg1 h) hkb _).trans k0'
    have d0 : ∀ W : World, w1.grownBy W none → W.cell? ⟨w.heap.size + 1, 0, none⟩ = some (.int .i64 y.k) := fun W h => (hV.kept (grown_up hg1 h) (by simp)).c0
    have d1 : ∀ W : World, w1.grownBy W none → W.cell? ⟨w.heap.size + 1, 1, none⟩ = some (.int .i64 y.n) := fun W h => (hV.kept (grown_up hg1 h) (by simp)).c1
    have d2 : ∀ W : World, w1.grownBy W none → W.cell? ⟨w.heap.size + 1, 2, none⟩ = some (.string y.s) := fun W h => (hV.kept (grown_up hg1 h) (by simp)).c2
    have dr : w1.grownBy w1.drew none := ⟨rfl, rfl, rfl, Nat.le_refl _, fun _ _ _ => rfl⟩
    have HG : Hid (w.grownBy w1 none) := grown_up hgab hg1
    clear hS hV hKa2 hgab hg1 k0' hkb
    generalize w.heap.size = g at *
    by_cases hf : fitV k y = true
    · have HEE : Hid (E = 0) := by show _ = _; rw [← HE.out, HE2.out, hf]; rfl
      have Hp := fitV_parts hf
      have HEB : Hid (B = ⟨(wrB [y]).toArray⟩ ∧ wrE [y] = 0) := by
        refine ⟨?_, by rw [wrE_one, Hp.2.2]; rfl⟩
        rw [← HB.out, wrB_one y Hp.2.2]
        unfold keyB
        rw [if_pos (HE.out.trans HEE.out)]
      have Hb : Hid ((encL [y]).length ≤ 1099511627776) := by have := encV_small y Hp.2.1; show _ ≤ _; omega
      have Hw : Hid (∀ z ∈ [y], z.wf) := by intro z hz; simp at hz; subst hz; exact hy
      clear Hp
      go_upto_region 3 with fail
      go_region_held_law (fun w' => w1.grownBy w' none) (first | assumption | exact dr) (first
        | (go_at_call 25; refine (is_any k y _ hy).mono ?_; rintro e w2 ⟨rfl, hg2⟩; rw [hf]; have S2 : w1.grownBy w2 none := grown_up (by assumption) hg2))
      have e0 := d0 _ S2
      have e1 := d1 _ S2
      have e2 := d2 _ S2
      go_wp2_with fail
      refine (rwrite_any _ [y] _ (Tup.one y (by simp) (by simp) (by simp) (by simp)) Hw.out Hb.out).mono ?_
      rintro e w3 ⟨rfl, hg3⟩
      rw [HEB.out.2, ← HEB.out.1]
      go_wp2
      go_ret2
      rw [HEE.out]
      exact ⟨rfl, grown_up (grown_up (grown_up HG.out S2) (World.grownBy_alloc _ _ _)) hg3⟩
    · have hf' : fitV k y = false := by simpa using hf
      have HEE : Hid (E = 6) := by show _ = _; rw [← HE.out, HE2.out, hf']; rfl
      have HEB : Hid (B = ⟨#[]⟩) := by
        show _ = _
        rw [← HB.out]
        unfold keyB
        rw [if_neg (by rw [HE.out, HEE.out]; decide)]
      go_upto_region 3 with fail
      go_region_held_law (fun w' => w1.grownBy w' none) (first | assumption | exact dr) (first
        | (go_at_call 25; refine (is_any k y _ hy).mono ?_; rintro e w2 ⟨rfl, hg2⟩; rw [hf']; have S2 : w1.grownBy w2 none := grown_up (by assumption) hg2))
      go_wp2
      go_ret2
      rw [HEE.out, HEB.out]
      exact ⟨rfl, grown_up HG.out S2⟩
  · have hr' : rightS ks u x = false := by simpa using hr
    have HEE : Hid (E = 4) := by show _ = _; rw [← HE.out]; unfold keyE; rw [hr']; rfl
    have HEB : Hid (B = ⟨#[]⟩) := by
      show _ = _
      rw [← HB.out]
      unfold keyB
      rw [if_neg (by rw [HE.out, HEE.out]; decide)]
    go_enter Try.func11, Try.ntmps11
    go_wp2_with fail
    rw [← Ha.out]
    refine (rright_any _ ks u x _ hKa).mono ?_
    rintro e w1 ⟨rfl, hg1⟩
    rw [hr']
    go_wp2
    go_ret2
    rw [HEE.out, HEB.out]
    exact ⟨rfl, grown_up hgab hg1⟩

end Go.Proofs.Ytiledkdoabdnnaa
