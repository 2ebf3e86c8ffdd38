/- Contract, over the turned program: rows.Unschema answers the schema that bytes are, or the error. Conditions: those that the theorem states. -/
import Derived.Test.YtiledkdoabdnnabRUn
namespace Go.Proofs.Ytiledkdoabdnnab
open Go.RowKit
set_option linter.unusedVariables false

theorem Sb.end3 {w : World} {g : Nat} {kv : Value} {u x : Int} (h : Sb w g kv u x) (z : Value) (u' x' : Int) :
    Sb (((w.setCell ⟨g, 0, none⟩ z).setCell ⟨g, 1, none⟩ (.int .i64 u')).setCell ⟨g, 2, none⟩ (.int .i64 x')) g z u' x' ∧ w.grownBy (((w.setCell ⟨g, 0, none⟩ z).setCell ⟨g, 1, none⟩ (.int .i64 u')).setCell ⟨g, 2, none⟩ (.int .i64 x')) (some g) :=
  ⟨((h.set0 z).set1 u').set2 x', grown_trans (grown_trans (set_grown _ _ _ _) (set_grown _ _ _ _) (.inl rfl)) (set_grown _ _ _ _) (.inl rfl)⟩
theorem toldS_bad {w' : World} {t : ByteArray} (h : unOk t = false) : ToldS w' t (.slice none 0 0) 0 0 10 := by
  unfold ToldS
  rw [h]
  exact ⟨rfl, rfl, rfl, rfl⟩
theorem toldS_ok {w' : World} {t : ByteArray} {kv : Value} {ks : List Int} {u x : Nat} (hU : unRaw t = ⟨ks, u, x, 0⟩) (hr : rightS ks u x = true) (hK : Kd w' kv ks) : ToldS w' t kv u x 0 := by
  have h : unOk t = true := by unfold unOk; rw [hU]; simp [hr]
  unfold ToldS
  rw [h, hU]
  exact ⟨rfl, rfl, rfl, hK⟩
theorem unOk_bad {t : ByteArray} {ks : List Int} {u x : Nat} {d : Int} (hU : unRaw t = ⟨ks, u, x, d⟩) (h : ¬ (d = 0 ∧ rightS ks u x = true)) : unOk t = false := by
  unfold unOk
  rw [hU]
  by_cases hd : d = 0
  · have : rightS ks u x = false := by rw [← Bool.not_eq_true]; exact fun h2 => h ⟨hd, h2⟩
    simp [this]
  · simp [hd]
theorem row_shape {w : World} {base sz n : Nat} {e : TypeId} {v : Value} {xs : List Value} (h : w.ownsRow base e sz v n xs) : ∃ a c, v = .slice a n c := by
  rcases h.2 with ⟨rfl, rfl⟩ | ⟨g, cap, cur, rfl, _⟩
  · exact ⟨none, 0, rfl⟩
  · exact ⟨_, cap, rfl⟩

set_option maxRecDepth 100000 in
set_option maxHeartbeats 1600000 in
theorem unschema_any (t : ByteArray) (w : World) (ht : t.size ≤ maxLen) :
    Calls Try.prog 7 #[.string t] w fun e w' => ∃ kv u x er, e = .returned (.tuple #[sval kv u x, .int .i64 er]) ∧ ToldS w' t kv u x er ∧ w.grownBy w' none := by
  obtain ⟨i0, hi, hz0, hz1, hz2⟩ := info_parts Try.info36
  have Ht : Hid (t.size ≤ maxLen) := ht
  have ga := World.grownBy_alloc w (.cells #[.slice none 0 0, .int .i64 0, .int .i64 0] 24) none
  have gb := World.grownBy_alloc (w.alloc (.cells #[.slice none 0 0, .int .i64 0, .int .i64 0] 24)) (.cells #[.slice none 0 0, .int .i64 0, .int .i64 0] 24) none
  have gc := World.grownBy_alloc ((w.alloc (.cells #[.slice none 0 0, .int .i64 0, .int .i64 0] 24)).alloc (.cells #[.slice none 0 0, .int .i64 0, .int .i64 0] 24)) (.cells #[.string t, .int .i64 0] 65) none
  have hR0 := Rd.new ((w.alloc (.cells #[.slice none 0 0, .int .i64 0, .int .i64 0] 24)).alloc (.cells #[.slice none 0 0, .int .i64 0, .int .i64 0] 24)) t 0
  have hO0 := ((Sb.new w (.slice none 0 0) 0 0).keptN gb).keptN gc
  have hS0 := (Sb.new (w.alloc (.cells #[.slice none 0 0, .int .i64 0, .int .i64 0] 24)) (.slice none 0 0) 0 0).keptN gc
  have eg : (w.alloc (.cells #[.slice none 0 0, .int .i64 0, .int .i64 0] 24)).heap.size = w.heap.size + 1 := by simp
  have eg2 : ((w.alloc (.cells #[.slice none 0 0, .int .i64 0, .int .i64 0] 24)).alloc (.cells #[.slice none 0 0, .int .i64 0, .int .i64 0] 24)).heap.size = w.heap.size + 1 + 1 := by simp
  rw [eg] at hS0
  rw [eg2] at hR0
  have hG0 := grown_up (grown_up ga gb) gc
  have hsz : (((w.alloc (.cells #[.slice none 0 0, .int .i64 0, .int .i64 0] 24)).alloc (.cells #[.slice none 0 0, .int .i64 0, .int .i64 0] 24)).alloc (.cells #[.string t, .int .i64 0] 65)).heap.size = w.heap.size + 3 := by simp
  obtain ⟨wb, HB⟩ : ∃ wb, Hid (wb = ((w.alloc (.cells #[.slice none 0 0, .int .i64 0, .int .i64 0] 24)).alloc (.cells #[.slice none 0 0, .int .i64 0, .int .i64 0] 24)).alloc (.cells #[.string t, .int .i64 0] 65)) := ⟨_, rfl⟩
  rw [← HB.out] at hR0 hO0 hS0 hG0 hsz
  clear ga gb gc eg eg2 ht
  obtain ⟨n, Hn⟩ : ∃ n, Hid (n1 t 0 = n) := ⟨_, rfl⟩
  have hn256 : n < 256 := by rw [← Hn.out]; exact n1_lt t 0
  obtain ⟨s1, Hs1⟩ : ∃ s1, Hid (n1S t 0 = s1) := ⟨_, rfl⟩
  obtain ⟨e1, He1⟩ : ∃ e1, Hid (n1E t 0 = e1) := ⟨_, rfl⟩
  have Hs1m : Hid (s1.size ≤ maxLen) := by show _ ≤ _; rw [← Hs1.out]; exact Nat.le_trans (n1S_size t 0) Ht.out
  go_enter Try.func7, Try.ntmps7
  go_wp2_with (go_at_call 17; refine (from_any _ _).mono ?_; rintro e w1 ⟨rfl, rfl⟩)
  rw [← HB.out]
  refine (rn1_any _ t 0 _ hR0 Ht.out).mono ?_
  rintro e w1 ⟨rfl, hR1, hg1⟩
  rw [Hn.out]
  rw [Hs1.out, He1.out] at hR1
  have hO1 := hO0.kept hg1 (by simp; omega)
  have hS1 := hS0.kept hg1 (by simp)
  have hG1 := grown_new hG0 hg1 (fun k hk => by cases hk; omega)
  have hg1s := hg1.size
  rw [hsz] at hg1s
  clear hR0 hO0 hS0 hG0 hg1
  generalize hsb : w.heap.size + 1 = sb at *
  generalize hrb : sb + 1 = rb at *
  generalize hog : w.heap.size = og at *
  go_wp2_with fail
  go_loopw [11] (fun i wr => ∃ (j : Nat) (acc : List Int) (q : ByteArray) (e : Int) (kv : Value), j ≤ n ∧ i = .int .i64 j ∧ Hid (acc ++ kL (n - j) q e = kL n s1 e1) ∧ Hid (kS (n - j) q e = kS n s1 e1 ∧ kE (n - j) q e = kE n s1 e1) ∧ Hid (q.size ≤ maxLen ∧ acc.length ≤ j) ∧ Sb wr sb kv 0 0 ∧ OwnK wr (rb + 1) kv acc ∧ Rd wr rb q e ∧ Sb wr og (.slice none 0 0) 0 0 ∧ w.grownBy wr none) (fun i _ => n - (intOf i).toNat)
  case atStart => exact ⟨0, [], s1, e1, _, Nat.zero_le _, rfl, rfl, ⟨rfl, rfl⟩, ⟨Hs1m.out, Nat.zero_le _⟩, hS1, OwnK.nil _ _, hR1, hO1, hG1⟩
  case round =>
    clear hR1 hO1 hS1 hG1
    obtain ⟨j, acc, q, e, kv, hj, rfl, Hl, Hd, Hq, hS, ho, hR, hO, hg⟩ := hrel
    have hgs := hg.size
    have hRl := hR.lt
    by_cases hlt : j < n
    · have hji : (j : Int) < (n : Int) := by omega
      have Hm : Hid (n - j = (n - (j + 1)) + 1) := by show _ = _; omega
      rw [Hm.out] at Hl Hd
      have hk256 := n1_lt q e
      have Hq2 : Hid ((n1S q e).size ≤ maxLen) := Nat.le_trans (n1S_size q e) Hq.out.1
      have Hl2 : Hid ((acc ++ [(n1 q e : Int)]) ++ kL (n - (j + 1)) (n1S q e) (n1E q e) = kL n s1 e1) := by
        show _ = _
        rw [← Hl.out]
        simp [kL]
      have Hd2 : Hid (kS (n - (j + 1)) (n1S q e) (n1E q e) = kS n s1 e1 ∧ kE (n - (j + 1)) (n1S q e) (n1E q e) = kE n s1 e1) := Hd.out
      have Hb3 : Hid ((acc.length + 1) * 8 ≤ 140737488355328 ∧ acc.length + 1 ≤ maxLen) := by
        have h1 := Hq.out.2
        show _ ∧ _
        unfold maxLen
        omega
      have Hrow2 : Hid (∀ z, kv.ownBlock = some z → rb + 1 ≤ z) := fun z hz => (ho.lt z hz).1
      obtain ⟨ka, kc, hkv⟩ := ho.shape1
      obtain ⟨k, Hkk⟩ : ∃ k, Hid (n1 q e = k) := ⟨_, rfl⟩
      rw [Hkk.out] at hk256 Hl2
      have hkvn : kv.ownBlock = none ∨ kv.ownBlock ≠ some rb := .inr (fun h => by have := Hrow2.out rb h; omega)
      have hkvs : kv.ownBlock = none ∨ kv.ownBlock ≠ some sb := .inr (fun h => by have := Hrow2.out sb h; omega)
      have hkvo : some og ≠ kv.ownBlock := fun h => by have := Hrow2.out og h.symm; omega
      have hkvs' : some sb ≠ kv.ownBlock := fun h => by have := Hrow2.out sb h.symm; omega
      have hkvr : some rb ≠ kv.ownBlock := fun h => by have := Hrow2.out rb h.symm; omega
      clear Hl Hd Hm
      have hSd : Sb wr.drew sb kv 0 0 := hS
      have hRd : Rd wr.drew rb q e := hR
      have hOd : Sb wr.drew og (.slice none 0 0) 0 0 := hO
      have hod : OwnK wr.drew (rb + 1) kv acc := ho
      have hgd : w.grownBy wr.drew none := ⟨hg.os, hg.tape, hg.output, hg.size, hg.block⟩
      have c0 := hSd.c0
      have hrs : rb < wr.drew.heap.size := hRl
      clear hS hR hO ho hg
      subst hkv
      have Hrs : Hid (rb + 1 ≤ wr.heap.size) := hRl
      have Hsb : Hid (sb < rb ∧ og < rb) := by show _ ∧ _; omega
      clear hrs hRl
      have Hwk : Hid (IntKind.i64.wrap (k : Int) = (k : Int)) := by
        show _ = _
        first
          | (rw [IntKind.wrap_i64]; omega)
          | (show wrap64 (k : Int) = _; unfold wrap64; omega)
          | (unfold IntKind.wrap; simp; omega)
      go_upto_region 5 with fail
      go_region_law (first
        | (go_simp; go_at_call 18; refine (rn1_any rb q e _ hRd Hq.out.1).mono ?_; rintro x1 w2 ⟨rfl, hR2, hg2⟩; rw [Hkk.out]; have hS2 := hSd.kept hg2 (by simp; omega); have c2 := hS2.c0; have ca : ∀ o, (w2.alloc o).cell? ⟨sb, 0, none⟩ = some (.slice ka acc.length kc) := fun o => (hS2.keptN (World.grownBy_alloc w2 o none)).c0; have hO2 := hOd.kept hg2 (by simp; omega); have ho2 := hod.kept hg2 hkvn; have hG2 := grown_new hgd hg2 (fun z hz => by cases hz; omega); have hl2 : rb + 1 ≤ w2.heap.size := Nat.le_trans Hrs.out hg2.size)
        | (refine step_append_row (by rfl) (.tmp 14) (.tmp 18) 22 22 (by rfl) (rb + 1) 36 i0 _ 1 8 Try.underlying22 hi hz0 (by rfl) hz1 hz2 (.slice ka acc.length kc) _ _ (by rfl) (ho2.alloc _) _ 1 (kcs [IntKind.i64.wrap (k : Int)]) (by rfl) (src_kind _ 22 36 Try.underlying22 (IntKind.i64.wrap (k : Int)) _ (by rfl)) (by omega) Hb3.out.1 Hb3.out.2 (by simp; omega) ?_; intro v4 w4 ho4 hg4 hv4; obtain ⟨a4, m4, rfl⟩ := row_shape ho4; have hgal := World.grownBy_alloc w2 (.cells #[.int .i64 (IntKind.i64.wrap (k : Int))] 36) none; have hS4 := (hS2.keptN hgal).kept hg4 hkvs'; have c4 := hS4.c0; have f4 := hS4.fz 0))
      all_goals
        have hst := set_grown w4 sb 0 (.slice a4 (acc.length + 1) m4)
        have ho5 : OwnK w4 (rb + 1) (.slice a4 (acc.length + 1) m4) (acc ++ [(k : Int)]) := by
          rw [Hwk.out] at ho4
          unfold OwnK
          have e1 : kcs (acc ++ [(k : Int)]) = kcs acc ++ kcs [(k : Int)] := by simp [kcs]
          rw [e1, List.length_append]
          exact ho4
        have hv4s : (Value.slice a4 (acc.length + 1) m4).ownBlock = none ∨ (Value.slice a4 (acc.length + 1) m4).ownBlock ≠ some sb := .inr (fun h => by have := (ho5.lt sb h).1; omega)
        have hS5 := hS4.set0 (.slice a4 (acc.length + 1) m4)
        have hR5 := ((hR2.kept hgal (by simp)).kept hg4 hkvr).kept hst (by simp; omega)
        have hO5 := ((hO2.keptN hgal).kept hg4 hkvo).kept hst (by simp; omega)
        have hG5 := grown_new (grown_new (grown_up hG2 hgal) hg4 (fun z hz => by have := Hrow2.out z hz; omega)) hst (fun z hz => by cases hz; omega)
        go_wp2_with fail
        go_roundw
        case rel => exact ⟨j + 1, _, _, _, _, by omega, by go_num, Hl2, Hd2, ⟨Hq2.out, by have := Hq.out.2; simp; omega⟩, hS5, ho5.kept hst hv4s, hR5, hO5, hG5⟩
        case measure => simp [intOf]; omega
    · have hji : ¬ (j : Int) < (n : Int) := by omega
      have ej : n - j = 0 := by omega
      rw [ej] at Hl Hd
      have HK : Hid (acc = kL n s1 e1) := by have := Hl.out; simp only [kL, List.append_nil] at this; exact this
      have HS2 : Hid (q = kS n s1 e1 ∧ e = kE n s1 e1) := Hd.out
      obtain ⟨ka, kc, hkv⟩ := ho.shape1
      have Hrow2 : Hid (∀ z, kv.ownBlock = some z → rb + 1 ≤ z) := fun z hz => (ho.lt z hz).1
      have hu256 := n1_lt q e
      have hx256 := n1_lt (n1S q e) (n1E q e)
      have Hq2 : Hid ((n1S q e).size ≤ maxLen) := Nat.le_trans (n1S_size q e) Hq.out.1
      have HU : Hid (unRaw t = ⟨acc, n1 q e, n1 (n1S q e) (n1E q e), doneE (n1S (n1S q e) (n1E q e)) (n1E (n1S q e) (n1E q e))⟩) := by
        show _ = _
        unfold unRaw
        dsimp only
        rw [Hn.out, Hs1.out, He1.out, HK.out, HS2.out.1, HS2.out.2]
      clear Hl Hd ej HK HS2
      obtain ⟨uu, Huu⟩ : ∃ uu, Hid (n1 q e = uu) := ⟨_, rfl⟩
      obtain ⟨xx, Hxx⟩ : ∃ xx, Hid (n1 (n1S q e) (n1E q e) = xx) := ⟨_, rfl⟩
      obtain ⟨D, HD⟩ : ∃ D, Hid (doneE (n1S (n1S q e) (n1E q e)) (n1E (n1S q e) (n1E q e)) = D) := ⟨_, rfl⟩
      rw [Huu.out, Hxx.out, HD.out] at HU
      rw [Huu.out] at hu256
      rw [Hxx.out] at hx256
      subst hkv
      go_wp2_with fail
      refine (rn1_any rb q e _ hR Hq.out.1).mono ?_
      rintro x1 w2 ⟨rfl, hR2, hg2⟩
      rw [Huu.out]
      have hS2 := hS.kept hg2 (by simp; omega)
      have hO2 := hO.kept hg2 (by simp; omega)
      have ho2 := ho.kept hg2 (.inr (fun h => by have := Hrow2.out rb h; omega))
      have hG2 := grown_new hg hg2 (fun z hz => by cases hz; omega)
      have c1 := hS2.c1
      have f1 := hS2.fz 1
      clear hS hO ho hg hg2 hR
      have hst2 := set_grown w2 sb 1 (.int .i64 (uu : Int))
      have hS3 := hS2.set1 (uu : Int)
      have hR3 := hR2.kept hst2 (by simp; omega)
      have hO3 := hO2.kept hst2 (by simp; omega)
      have ho3 := ho2.kept hst2 (.inr (fun h => by have := Hrow2.out sb h; omega))
      have hG3 := grown_new hG2 hst2 (fun z hz => by cases hz; omega)
      obtain ⟨w3, Hw3⟩ : ∃ w3, Hid (w3 = w2.setCell ⟨sb, 1, none⟩ (.int .i64 (uu : Int))) := ⟨_, rfl⟩
      rw [← Hw3.out] at hS3 hR3 hO3 ho3 hG3
      clear hS2 hR2 hO2 ho2 hG2 hst2
      go_wp2_with fail
      rw [← Hw3.out]
      refine (rn1_any rb _ _ _ hR3 Hq2.out).mono ?_
      rintro x2 w4 ⟨rfl, hR4, hg4⟩
      rw [Hxx.out]
      have hS4 := hS3.kept hg4 (by simp; omega)
      have hO4 := hO3.kept hg4 (by simp; omega)
      have ho4 := ho3.kept hg4 (.inr (fun h => by have := Hrow2.out rb h; omega))
      have hG4 := grown_new hG3 hg4 (fun z hz => by cases hz; omega)
      have c2 := hS4.c2
      have f2 := hS4.fz 2
      clear c1 f1 hS3 hR3 hO3 ho3 hG3 hg4
      have hst4 := set_grown w4 sb 2 (.int .i64 (xx : Int))
      have hS5 := hS4.set2 (xx : Int)
      have hR5 := hR4.kept hst4 (by simp; omega)
      have hO5 := hO4.kept hst4 (by simp; omega)
      have ho5 := ho4.kept hst4 (.inr (fun h => by have := Hrow2.out sb h; omega))
      have hG5 := grown_new hG4 hst4 (fun z hz => by cases hz; omega)
      obtain ⟨w5, Hw5⟩ : ∃ w5, Hid (w5 = w4.setCell ⟨sb, 2, none⟩ (.int .i64 (xx : Int))) := ⟨_, rfl⟩
      rw [← Hw5.out] at hS5 hR5 hO5 ho5 hG5
      clear hS4 hR4 hO4 ho4 hG4 hst4
      go_wp2_with fail
      rw [← Hw5.out]
      refine (done_any rb _ _ _ hR5).mono ?_
      rintro x3 w6 ⟨rfl, rfl⟩
      rw [HD.out]
      clear c2 f2 hR5
      have q0 := hS5.c0
      have q1 := hS5.c1
      have q2 := hS5.c2
      have hog2 : some og ≠ (Value.slice ka acc.length kc).ownBlock := fun h => by have := Hrow2.out og h.symm; omega
      have Hogw : Hid (∀ z, some og = some z → w.heap.size ≤ z) := fun z hz => by cases hz; omega
      by_cases hD : D = 0
      · subst hD
        go_wp2_with fail
        refine (rightS_any _ acc (uu : Int) (xx : Int) _ ho5.kd).mono ?_
        rintro x4 w7 ⟨rfl, hg7⟩
        have hS7 := hS5.keptN hg7
        have hO7 := hO5.keptN hg7
        have ho7 := ho5.kept hg7 (by cases (Value.slice ka acc.length kc).ownBlock <;> simp)
        have hG7 := grown_up hG5 hg7
        have p0 := hS7.c0
        have p1 := hS7.c1
        have p2 := hS7.c2
        have o0 := hO7.c0
        have o1 := hO7.c1
        have o2 := hO7.c2
        have z0 := hO7.fz 0
        have z1 := hO7.fz 1
        have z2 := hO7.fz 2
        clear q0 q1 q2 hS5 hO5 ho5 hG5 hg7
        by_cases hr : rightS acc (uu : Int) (xx : Int) = true
        · rw [hr]
          have he := hO7.end3 (.slice ka acc.length kc) (uu : Int) (xx : Int)
          have hoe := ho7.kept he.2 (.inr (Ne.symm hog2))
          go_wp2_with fail
          refine bodyPost_ret (results_sb rfl _ og _ _ _ _ _ rfl rfl he.1 _ _ _ rfl) rfl ?_
          exact ⟨_, _, _, _, rfl, toldS_ok HU.out hr hoe.kd, grown_new hG7 he.2 Hogw.out⟩
        · have hr' : rightS acc (uu : Int) (xx : Int) = false := by simpa using hr
          rw [hr']
          have he := hO7.end3 (.slice none 0 0) 0 0
          go_wp2_with fail
          refine bodyPost_ret (results_sb rfl _ og _ _ _ _ _ rfl rfl he.1 _ _ _ rfl) rfl ?_
          exact ⟨_, _, _, _, rfl, toldS_bad (unOk_bad HU.out (fun h => hr h.2)), grown_new hG7 he.2 Hogw.out⟩
      · have hD' : (D != 0) = true := by simp [hD]
        have he := hO5.end3 (.slice none 0 0) 0 0
        have o0 := hO5.c0
        have o1 := hO5.c1
        have o2 := hO5.c2
        have z0 := hO5.fz 0
        have z1 := hO5.fz 1
        have z2 := hO5.fz 2
        clear q0 q1 q2
        go_wp2_with fail
        refine bodyPost_ret (results_sb rfl _ og _ _ _ _ _ rfl rfl he.1 _ _ _ rfl) rfl ?_
        exact ⟨_, _, _, _, rfl, toldS_bad (unOk_bad HU.out (fun h => hD h.1)), grown_new hG5 he.2 Hogw.out⟩

end Go.Proofs.Ytiledkdoabdnnab
