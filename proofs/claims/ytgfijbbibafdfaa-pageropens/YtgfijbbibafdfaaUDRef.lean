/- Contracts, over the turned program: the document's right and Write of directories. Conditions: those that each theorem states. -/
import Derived.Test.YtgfijbbibafdfaaUMath
import Derived.Test.YtgfijbbibafdfaaRefRead
namespace Go.Proofs.Ytgfijbbibafdfaa
open Go.RowKit
set_option linter.unusedVariables false

set_option maxRecDepth 100000 in
set_option maxHeartbeats 1600000 in
theorem uright_any (v : Value) (l : List Int) (B : Nat) (w : World) (hS : Sl (Value.int .i64) B w v l) (hl : l.length ≤ 255) :
    Calls Try.prog 72 #[v] w fun e w' => e = .returned (.bool (okP l)) ∧ Kp none' w w' := by
  obtain ⟨a, c, rfl, _, _, ha⟩ := hS
  go_enter Try.func72, Try.ntmps72
  go_wp2
  go_loopw [3] (fun t wr => ∃ k : Nat, k ≤ l.length ∧ t = .int .i64 k ∧ Hid (okP (l.take k) = true) ∧ Kp none' w wr) (fun t _ => l.length - (intOf t).toNat)
  case atStart => exact ⟨0, Nat.zero_le _, rfl, by show _ = _; simp [okP], Kp.refl _ _⟩
  case round =>
    obtain ⟨k, hk, rfl, HO, hKr⟩ := hrel
    by_cases hlt : k < l.length
    · have ha' := ha
      obtain ⟨b, off, rfl, _, hc⟩ := ha' k hlt
      have hcc := hKr.cell hc (fun h => h)
      have HA : Hid (∀ j (h : j < l.length), wr.cell? ⟨b, off + j, none⟩ = some (.int .i64 l[j])) := fun j hj => by
        obtain ⟨b', off', e, _, hc'⟩ := ha j hj
        cases e
        exact hKr.cell hc' (fun h => h)
      have hk' : (k : Int) < (l.length : Int) := by omega
      have hsn := okP_snoc (l.take k) l[k]
      rw [HO.out, Bool.true_and] at hsn
      have HB : Hid (okP (l.take k ++ [l[k]]) = false → okP l = false) := okP_bad hlt
      have HP : Hid (okP (l.take (k + 1)) = okP (l.take k ++ [l[k]])) := by show _ = _; rw [List.take_succ_eq_append_getElem hlt]
      have HM : Hid (∀ j (h : j < l.length), j < k → l[j] = l[k] → okP l = false) := by
        intro j hj hjk he
        apply HB.out
        rw [hsn]
        have : l[k] ∈ l.take k := by rw [← he]; exact List.mem_take_iff_getElem.2 ⟨j, by omega, by simp⟩
        simp [this]
      have HN : Hid ((0 ≤ l[k] ∧ l[k] < 65536) → (∀ x ∈ l.take k, x ≠ l[k]) → okP (l.take (k + 1)) = true) := by
        intro h1 h2
        rw [HP.out, hsn]
        have : l[k] ∉ l.take k := fun hm => h2 _ hm rfl
        simp [h1, this]
      have HF : Hid (¬ (0 ≤ l[k] ∧ l[k] < 65536) → okP l = false) := by
        intro h
        apply HB.out
        rw [hsn]
        simp only [h, decide_false, Bool.false_and]
      clear hsn HB HP ha hc
      obtain ⟨x, hx⟩ : ∃ x, l[k] = x := ⟨_, rfl⟩
      rw [hx] at hcc HM HN HF
      by_cases h0 : x < 0
      · have hbad : Hid (okP l = false) := HF.out (by omega)
        go_wp2
        go_ret
        rw [hbad.out]
        exact ⟨rfl, hKr⟩
      · by_cases h6 : 65535 < x
        · have hbad : Hid (okP l = false) := HF.out (by omega)
          go_wp2
          go_ret
          rw [hbad.out]
          exact ⟨rfl, hKr⟩
        · have HX : Hid (0 ≤ x ∧ x < 65536) := by show _ ∧ _; omega
          go_wp2
          go_loopw [4] (fun t wq => ∃ j : Nat, j ≤ k ∧ t = .int .i64 j ∧ Hid (∀ y ∈ l.take j, y ≠ x) ∧ Kp none' wr wq) (fun t _ => k - (intOf t).toNat)
          case atStart => exact ⟨0, Nat.zero_le _, rfl, by intro y hy; simp at hy, Kp.refl _ _⟩
          case round =>
            obtain ⟨j, hj, rfl, HY, hKq⟩ := hrel
            by_cases hjk : j < k
            · have hjl : j < l.length := by omega
              have hji : (j : Int) < (k : Int) := by omega
              have hjli : (j : Int) < (l.length : Int) := by omega
              have d1 := hKq.cell hcc (fun h => h)
              have d2 := hKq.cell (HA.out j hjl) (fun h => h)
              have HT : Hid (l.take (j + 1) = l.take j ++ [l[j]]) := List.take_succ_eq_append_getElem hjl
              have HM2 := hide (HM.out j hjl hjk)
              clear hcc
              obtain ⟨y, hy⟩ : ∃ y, l[j] = y := ⟨_, rfl⟩
              rw [hy] at d2 HT HM2
              go_upto_region 9 with fail
              by_cases hxy : x = y
              · have e1 : (x == y) = true := by simpa using hxy
                have hbad : Hid (okP l = false) := HM2.out hxy.symm
                clear hxy
                go_quiet (fail)
                go_wp2
                go_ret
                rw [hbad.out]
                exact ⟨rfl, (hKr.then hKq).then (Kp.drewN _ _ _)⟩
              · have e1 : (x == y) = false := by simpa using hxy
                have HY2 : Hid (∀ z ∈ l.take (j + 1), z ≠ x) := by
                  intro z hz
                  rw [HT.out] at hz
                  rcases List.mem_append.1 hz with hz | hz
                  · exact HY.out z hz
                  · simp at hz; subst hz; exact fun e => hxy e.symm
                clear hxy
                go_quiet (fail)
                go_wp2
                go_roundw
                case rel => exact ⟨j + 1, by omega, by go_num, HY2, hKq.then (Kp.drewN _ _ _)⟩
                case measure => simp [intOf]; omega
            · obtain rfl : j = k := by omega
              have HO2 : Hid (okP (l.take (j + 1)) = true) := HN.out HX.out HY.out
              clear hcc
              go_wp2
              go_roundw
              case rel => exact ⟨j + 1, by omega, by go_num, HO2, hKr.then hKq⟩
              case measure => simp [intOf]; omega
    · have HE : Hid (okP l = true) := by
        have := HO.out
        rw [List.take_of_length_le (by omega)] at this
        exact this
      go_wp2
      go_ret
      rw [HE.out]
      exact ⟨rfl, hKr⟩

theorem cat_mk (a b : List UInt8) : (⟨a.toArray⟩ : ByteArray) ++ ⟨b.toArray⟩ = ⟨(a ++ b).toArray⟩ := by
  apply ByteArray.ext
  rw [ByteArray.data_append]
  simp
set_option maxRecDepth 100000 in
set_option maxHeartbeats 800000 in
theorem urwrite_any (v : Value) (l : List Int) (B : Nat) (w : World) (hS : Sl (Value.int .i64) B w v l) :
    Calls Try.prog 52 #[v] w fun e w' => e = .returned (.tuple #[.string ⟨(wB l).toArray⟩, .int .i64 (wE l)]) ∧ Kp none' w w' := by
  have hS' := hS
  obtain ⟨a, c, rfl, hlc, hcm, ha⟩ := hS'
  unfold maxLen at hcm
  by_cases hl : 31 < l.length
  · have hE : wE l = 3 := by simp [wE, hl]
    have hB : wB l = [] := by simp [wB, hE]
    rw [hE, hB]
    have hli : 31 < (l.length : Int) := by omega
    clear ha hS hE hB
    go_enter Try.func52, Try.ntmps52
    go_wp2
    go_ret2
    exact ⟨rfl, Kp.refl _ _⟩
  · have hli : ¬ 31 < (l.length : Int) := by omega
    by_cases hO : okP l = true
    · have hE : wE l = 0 := by simp [wE, hl, hO]
      have hB : wB l = whole (encP l) := by simp [wB, hE]
      rw [hE, hB]
      clear hE hB
      have hl255 : (l.length : Int) < 18446744073709551616 := by omega
      go_enter Try.func52, Try.ntmps52
      go_upto_region 6 with (first
        | (go_at_call 72; refine (uright_any _ l B _ hS (by omega)).mono ?_; rintro e wb ⟨rfl, hkb⟩; rw [hO])
        | (go_at_call 73; refine (rfnum_any l.length 1 _ hl255).mono ?_; rintro e wc ⟨rfl, hgc⟩; rw [show wid 1 = 1 from rfl])
        | fail)
      have hkc : Kp none' w wc := hkb.then (Kp.ofN hgc _)
      clear hkb hgc
      go_wp2
      go_loopw [4, 5] (fun b t wr => ∃ (k : Nat) (A : ByteArray), k ≤ l.length ∧ t = .int .i64 k ∧ b = .string A ∧ Hid (A = ⟨(be l.length 1 ++ pagesB (l.take k)).toArray⟩) ∧ Kp none' w wr) (fun _ t _ => l.length - (intOf t).toNat)
      case atStart => exact ⟨0, _, Nat.zero_le _, rfl, rfl, by show _ = _; simp [pagesB], hkc⟩
      case round =>
        obtain ⟨k, A, hk, rfl, rfl, HA, hKr⟩ := hrel
        clear hkc
        by_cases hlt : k < l.length
        · obtain ⟨b, off, rfl, _, hc⟩ := ha k hlt
          have hcc := hKr.cell hc (fun h => h)
          obtain ⟨q, hq, hq6⟩ := okP_at hO k hlt
          obtain ⟨C, HC⟩ : ∃ C : ByteArray, Hid (⟨(be q 2).toArray⟩ = C) := ⟨_, rfl⟩
          have HT : Hid (A ++ C = ⟨(be l.length 1 ++ pagesB (l.take (k + 1))).toArray⟩) := by
            show _ = _
            rw [pagesB_take l k hlt, hq, HA.out, ← HC.out, cat_mk, List.append_assoc]
            rfl
          have hsz : ¬ 9223372036854775807 < A.size + C.size := by
            rw [HA.out, ← HC.out]
            show ¬ _ < (be l.length 1 ++ pagesB (l.take k)).toArray.size + (be q 2).toArray.size
            simp only [List.size_toArray, List.length_append, be_len, pagesB_len, List.length_take]
            omega
          rw [hq] at hcc
          have hk' : (k : Int) < (l.length : Int) := by omega
          have hq1 : (q : Int) < 65536 := by omega
          have hq2 : (q : Int) < 18446744073709551616 := by omega
          clear ha hc
          go_wp2_with (go_at_call 73; refine (rfnum_any q 2 _ hq2).mono ?_; rintro e wd ⟨rfl, hgd⟩; rw [show wid 2 = 2 from rfl, HC.out])
          go_roundw
          case rel => exact ⟨k + 1, _, by omega, by go_num, rfl, HT.out, hKr.then (Kp.ofN hgd _)⟩
          case measure => simp [intOf]; omega
        · have HT : Hid (A = ⟨(encP l).toArray⟩) := by
            show _ = _
            rw [HA.out, List.take_of_length_le (by omega)]
            rfl
          have hAs : A.size ≤ maxLen := by
            rw [HT.out]
            show (encP l).toArray.size ≤ _
            rw [List.size_toArray, encP_len]
            unfold maxLen
            omega
          go_wp2_with (go_at_call 29; refine (whole_any A _ hAs).mono ?_; rintro e wd ⟨rfl, hkd⟩)
          go_ret2
          rw [HT.out]
          exact ⟨rfl, hKr.then hkd⟩
    · have hO' : okP l = false := by simpa using hO
      have hE : wE l = 1 := by simp [wE, hl, hO']
      have hB : wB l = [] := by simp [wB, hE]
      rw [hE, hB]
      clear ha hE hB
      go_enter Try.func52, Try.ntmps52
      go_wp2_with (go_at_call 72; refine (uright_any _ l B _ hS (by omega)).mono ?_; rintro e wb ⟨rfl, hkb⟩; rw [hO'])
      go_ret2
      exact ⟨rfl, hkb⟩

theorem rfrnum1 (b : Nat) (s : ByteArray) (p : Nat) (e : Int) (w : World) (h : Rf w b s p e) (hp : p ≤ s.size) (hs : s.size ≤ maxLen) :
    Calls Try.prog 51 #[.pointer (some ⟨b, 0, none⟩), .int .i64 1] w fun y w' => y = .returned (.int .u64 (val (rawR (rest s p) e 1).data.toList)) ∧ RfPost b s (rawS (rest s p) e 1) (rawE (rest s p) e 1) w w' := rfrnum_any b s p e 1 w h hp hs
theorem rfrnum2 (b : Nat) (s : ByteArray) (p : Nat) (e : Int) (w : World) (h : Rf w b s p e) (hp : p ≤ s.size) (hs : s.size ≤ maxLen) :
    Calls Try.prog 51 #[.pointer (some ⟨b, 0, none⟩), .int .i64 2] w fun y w' => y = .returned (.int .u64 (val (rawR (rest s p) e 2).data.toList)) ∧ RfPost b s (rawS (rest s p) e 2) (rawE (rest s p) e 2) w w' := rfrnum_any b s p e 2 w h hp hs
set_option maxRecDepth 100000 in
set_option maxHeartbeats 1600000 in
theorem urread_any (s : ByteArray) (w : World) (hs : s.size ≤ maxLen) :
    Calls Try.prog 28 #[.string s] w fun e w' => ∃ v, e = .returned (.tuple #[v, .int .i64 (rE s)]) ∧ Ow (Value.int .i64) 3 w' w.heap.size v (rL s) ∧ Kp none' w w' := by
  have hR0 := Rf.new w s
  have hk0 := Kp.alloc none' w (.cells #[.string s, .int .i64 0, .int .i64 0] 91)
  obtain ⟨w0, H0⟩ : ∃ w0, Hid (w.alloc (.cells #[.string s, .int .i64 0, .int .i64 0] 91) = w0) := ⟨_, rfl⟩
  rw [H0.out] at hR0 hk0
  obtain ⟨rb, Hrb⟩ : ∃ rb, Hid (w.heap.size = rb) := ⟨_, rfl⟩
  rw [Hrb.out] at hR0
  obtain ⟨N, HN⟩ : ∃ N, Hid (cnt s = N) := ⟨_, rfl⟩
  have hN256 : N < 256 := by rw [← HN.out]; exact cnt_lt s
  obtain ⟨s1, Hs1⟩ : ∃ s1, Hid (rawS s 0 1 = s1) := ⟨_, rfl⟩
  obtain ⟨e1, He1⟩ : ∃ e1, Hid (rawE s 0 1 = e1) := ⟨_, rfl⟩
  have HP : Hid (pgs s = rdN N s1 e1) := by show _ = _; rw [← HN.out, ← Hs1.out, ← He1.out]; rfl
  have HW : Hid (rOk s = true → rdE N s1 e1 = 0) := by
    intro h
    have := ok_well h
    rw [HN.out, Hs1.out, He1.out] at this
    exact this
  have HC : Hid (((val (rawR s 0 1).data.toList : Nat) : Int) = (N : Int)) := by show _ = _; rw [← HN.out]; rfl
  obtain ⟨i0, hi, hz0, hz1, hz2⟩ := info_parts infoI
  go_enter Try.func28, Try.ntmps28
  go_upto_region 2 with fail
  rw [H0.out, Hrb.out]
  go_upto_region 3 with (go_at_call 51; refine (rfrnum1 rb s 0 0 _ hR0 (Nat.zero_le _) hs).mono ?_; rintro e w2 ⟨rfl, p1, hp1, hr1, hR2, hg2⟩; rw [rest_self] at hr1 hR2 ⊢; rw [HC.out]; rw [Hs1.out] at hr1; rw [He1.out] at hR2)
  have hk2 : Kp none' w w2 := hk0.trans (Kp.ofGrown hg2 (S := only rb) (fun k he _ => by cases he; rfl)) (fun _ _ h => h) (fun k hk he => absurd hk (by have := Hrb.out; unfold only at he; omega))
  clear hR0 hk0 hg2
  go_wp2
  go_loopw [6, 7] (fun v t wr => ∃ (k : Nat) (pre : List Int) (p : Nat) (e : Int), k ≤ N ∧ t = .int .u64 k ∧ Hid (pre.length = k ∧ p ≤ s.size ∧ rdE (N - k) (rest s p) e = rdE N s1 e1 ∧ pre ++ rdN (N - k) (rest s p) e = rdN N s1 e1) ∧ Ow (Value.int .i64) 3 wr (rb + 1) v pre ∧ Rf wr rb s p e ∧ Kp none' w wr) (fun _ t _ => N - (intOf t).toNat)
  case atStart => exact ⟨0, [], p1, e1, Nat.zero_le _, rfl, ⟨rfl, hp1, by rw [hr1]; rfl, by rw [hr1]; rfl⟩, Ow.nil _ _ _ _, hR2, hk2⟩
  case round =>
    obtain ⟨k, pre, p, e, hk, rfl, HI, hO, hR, hK⟩ := hrel
    clear hR2 hk2 hr1 hp1
    have hc2 := hR.c2
    have hrl := hR.lt
    have hrw : w.heap.size ≤ rb := by have := Hrb.out; omega
    by_cases hgo : k < N ∧ e = 0
    · obtain ⟨hlt, rfl⟩ := hgo
      have hki : (k : Int) < (N : Int) := by omega
      obtain ⟨m, hm⟩ : ∃ m, N - k = m + 1 := ⟨N - k - 1, by omega⟩
      have Hm : Hid (N - (k + 1) = m) := by show _ = _; omega
      obtain ⟨x, Hx⟩ : ∃ x, Hid (val (rawR (rest s p) 0 2).data.toList = x) := ⟨_, rfl⟩
      have hx6 : (x : Int) < 65536 := by have := val2_lt (rest s p) 0; rw [Hx.out] at this; omega
      have HI2 : Hid ((pre ++ [(x : Int)]).length = k + 1 ∧ rdE m (rawS (rest s p) 0 2) (rawE (rest s p) 0 2) = rdE N s1 e1 ∧ (pre ++ [(x : Int)]) ++ rdN m (rawS (rest s p) 0 2) (rawE (rest s p) 0 2) = rdN N s1 e1) := by
        have h := HI.out
        rw [hm] at h
        refine ⟨by simp [h.1], h.2.2.1, ?_⟩
        rw [← h.2.2.2, ← Hx.out]
        simp [rdN]
      have Hb : Hid ((pre.length + 1) * 8 ≤ 140737488355328 ∧ pre.length + 1 ≤ maxLen) := by
        have := HI.out.1
        exact ⟨by omega, by unfold maxLen; omega⟩
      have hub : ∀ z, u6.ownBlock = some z → ¬ only rb z := fun z hz he => by have := (hO.lt z hz).1; unfold only at he; omega
      have hub2 : ∀ z, z = rb → ¬ u6.ownBlock = some z := fun z hz he => by have := (hO.lt z he).1; omega
      clear hm
      go_upto_region 8 with (go_at_call 51; refine (rfrnum2 rb s p 0 _ hR HI.out.2.1 hs).mono ?_; rintro e4 w4 ⟨rfl, p2, hp2, hr2, hR4, hg4⟩; rw [Hx.out])
      have hO4 := hO.kept (Kp.ofGrown hg4 (S := only rb) (fun k he _ => by cases he; rfl)) hub
      have hK4 : Kp none' w w4 := hK.trans (Kp.ofGrown hg4 (S := only rb) (fun k he _ => by cases he; rfl)) (fun _ _ h => h) (fun k hk he => absurd hk (by unfold only at he; omega))
      have hO5 := World.ownsRow.alloc hO4 (.cells #[.int .i64 (x : Int)] 3)
      have hb5 : rb + 1 ≤ (w4.alloc (.cells #[.int .i64 (x : Int)] 3)).heap.size := by have := hR4.lt; simp; omega
      clear hO hK hR hc2
      go_wp2_with (at_builtin; refine wpList_append_row _ rfl (.tmp 30) (.tmp 33) 37 37 rfl (rb + 1) 3 i0 _ 1 8 Try.underlying37 hi hz0 rfl hz1 hz2 u6 _ _ rfl hO5 _ 1 [.int .i64 (x : Int)] rfl (src_cell _ 37 3 Try.underlying37 _ rfl _ rfl) (by omega) Hb.out.1 Hb.out.2 hb5 ?_; intro v6 w6 hO6 hg6 hv6)
      have hk6 : Kp (fun k => u6.ownBlock = some k) w4 w6 := ((Kp.alloc _ w4 _)).then (Kp.ofGrown hg6 (fun k hk _ => hk))
      have hR6 : Rf w6 rb s p2 (rawE (rest s p) 0 2) := by
        unfold Rf
        rw [hk6.block rb hR4.lt (hub2 rb rfl)]
        exact hR4
      go_roundw
      case rel => exact ⟨k + 1, pre ++ [(x : Int)], p2, rawE (rest s p) 0 2, by omega, by go_num, ⟨HI2.out.1, hp2, by rw [Hm.out, hr2]; exact HI2.out.2.1, by rw [Hm.out, hr2]; exact HI2.out.2.2⟩, by unfold Ow; rw [List.map_append, List.length_append]; exact hO6, hR6, hK4.trans hk6 (fun _ _ h => h) (fun i hi h => absurd hi (by have := (hO4.lt i h).1; omega))⟩
      case measure => simp [intOf]; omega
    · have HEnd : Hid (e = 0 → k = N) := fun h => by by_cases h2 : k < N; exact absurd ⟨h2, h⟩ hgo; omega
      have Hbad : Hid (e ≠ 0 → rE s = 10 ∧ rL s = []) := fun h => by
        apply rE_bad
        intro h0
        have ho : rOk s = true := by
          cases hb : rOk s with
          | true => rfl
          | false => unfold rE at h0; rw [hb] at h0; cases h0
        have h1 := HI.out.2.2.1
        rw [rdE_stays _ _ e h, HW.out ho] at h1
        exact h h1
      have Hpre : Hid (e = 0 → pre = pgs s) := fun h => by
        have h1 := HI.out.2.2.2
        rw [HEnd.out h, Nat.sub_self] at h1
        simp only [rdN, List.append_nil] at h1
        rw [h1, HP.out]
      obtain ⟨X, HX⟩ : ∃ X : ByteArray, Hid (⟨(wB pre).toArray⟩ = X) := ⟨_, rfl⟩
      obtain ⟨E, HE⟩ : ∃ E, Hid (wE pre = E) := ⟨_, rfl⟩
      have hXs : (X.data.toList = s.data.toList) ↔ wB pre = s.data.toList := by rw [← HX.out]
      have hexit : (¬ ((k : Int) < (N : Int)) ∧ True) ∨ ((k : Int) < (N : Int) ∧ (e == 0) = false) := by
        by_cases h2 : (k : Int) < (N : Int)
        · right
          refine ⟨h2, ?_⟩
          rw [beq_eq_false_iff_ne]
          intro h
          have := HEnd.out h
          omega
        · exact .inl ⟨h2, trivial⟩
      have hOs := hO.sl
      have hOs' := hOs
      obtain ⟨ua, uc, hu6, _⟩ := hOs'
      have HO := hide hO
      subst hu6
      clear hgo hO
      rcases hexit with ⟨hx, hx2⟩ | ⟨hx, hx2⟩
      all_goals
        go_upto_region 10 with (go_at_call 52; refine (urwrite_any _ pre _ _ hOs).mono ?_; rintro e5 w5 ⟨rfl, hk5⟩; rw [HX.out, HE.out])
        have hc5 := hk5.cell hc2 (fun h => h)
        have HK : Hid (Kp none' w w5) := hK.then hk5
        have HO5 := hide ((HO.out.keptN hk5).mono (base' := w.heap.size) (by omega))
        clear hOs hc2 hK hR hk5 HO
        by_cases h0 : e = 0
        · subst h0
          have hp := Hpre.out rfl
          subst hp
          by_cases hE : E = 0
          · subst hE
            by_cases hxx : X.toList = s.toList
            · have hx' : (X.toList == s.toList) = true := by simpa using hxx
              have HR : Hid (rE s = 0 ∧ rL s = pgs s) := by
                have : rOk s = true := by
                  unfold rOk
                  rw [HE.out]
                  have := hXs.1 (by rw [← ByteArray.toList_eq, ← ByteArray.toList_eq]; exact hxx)
                  simp [this]
                exact ⟨by simp [rE, this], by simp [rL, this]⟩
              clear hxx hXs
              go_wp2
              go_ret2
              rw [HR.out.1, HR.out.2]
              exact ⟨_, rfl, HO5.out, HK.out⟩
            · have hx' : (X.toList == s.toList) = false := by simpa using hxx
              have HR : Hid (rE s = 10 ∧ rL s = []) := by
                have : rOk s = false := by
                  unfold rOk
                  rw [decide_eq_false_iff_not]
                  rintro ⟨_, h⟩
                  apply hxx
                  rw [ByteArray.toList_eq, ByteArray.toList_eq]
                  exact hXs.2 h
                exact ⟨by simp [rE, this], by simp [rL, this]⟩
              clear hxx hXs
              go_wp2
              go_ret2
              rw [HR.out.1, HR.out.2]
              exact ⟨_, rfl, Ow.nil _ _ _ _, HK.out⟩
          · have hE0 : (E != 0) = true := by simpa using hE
            have HR : Hid (rE s = 10 ∧ rL s = []) := by
              have : rOk s = false := by unfold rOk; rw [HE.out]; simp [hE]
              exact ⟨by simp [rE, this], by simp [rL, this]⟩
            clear hXs
            go_wp2
            go_ret2
            rw [HR.out.1, HR.out.2]
            exact ⟨_, rfl, Ow.nil _ _ _ _, HK.out⟩
        · have he0 : (e != 0) = true := by simpa using h0
          have HR := hide (Hbad.out h0)
          clear hXs
          go_wp2
          go_ret2
          rw [HR.out.1, HR.out.2]
          exact ⟨_, rfl, Ow.nil _ _ _ _, HK.out⟩

end Go.Proofs.Ytgfijbbibafdfaa
