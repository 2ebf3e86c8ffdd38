/- Contract, over the turned program: the reference's Unschema answers the schema that bytes are, or the error. Conditions: those that the theorem states. -/
import Derived.Test.YtiledkdoabdnnabRUnW
namespace Go.Proofs.Ytiledkdoabdnnab
open Go.RowKit
set_option linter.unusedVariables false

theorem rfn1_any (b : Nat) (s : ByteArray) (p : Nat) (e : Int) (w : World) (h : Rf w b s p e) (hp : p ≤ s.size) (hs : s.size ≤ maxLen) :
    Calls Try.prog 20 #[.pointer (some ⟨b, 0, none⟩), .int .i64 1] w fun y w' => y = .returned (.int .u64 (n1 (rest s p) e : Int)) ∧ RfPost b s (n1S (rest s p) e) (n1E (rest s p) e) w w' := rfrnum_any b s p e 1 w h hp hs

set_option maxRecDepth 100000 in
set_option maxHeartbeats 1600000 in
theorem runschema_any (t : ByteArray) (w : World) (ht : t.size ≤ maxLen) :
    Calls Try.prog 8 #[.string t] w fun e w' => ∃ kv u x er, e = .returned (.tuple #[sval kv u x, .int .i64 er]) ∧ ToldS w' t kv u x er ∧ w.grownBy w' none := by
  obtain ⟨i0, hi, hz0, hz1, hz2⟩ := info_parts Try.info36
  have Ht : Hid (t.size ≤ maxLen) := ht
  have ga := World.grownBy_alloc w (.cells #[.slice none 0 0, .int .i64 0, .int .i64 0] 24) none
  have gb := World.grownBy_alloc (w.alloc (.cells #[.slice none 0 0, .int .i64 0, .int .i64 0] 24)) (.cells #[.string t, .int .i64 0, .int .i64 0] 54) none
  have gc := World.grownBy_alloc ((w.alloc (.cells #[.slice none 0 0, .int .i64 0, .int .i64 0] 24)).alloc (.cells #[.string t, .int .i64 0, .int .i64 0] 54)) (.cells #[.slice none 0 0, .int .i64 0, .int .i64 0] 24) none
  have hR0 := (Rf.new (w.alloc (.cells #[.slice none 0 0, .int .i64 0, .int .i64 0] 24)) t).kept gc (by simp)
  have hO0 := ((Sb.new w (.slice none 0 0) 0 0).keptN gb).keptN gc
  have hS0 := Sb.new ((w.alloc (.cells #[.slice none 0 0, .int .i64 0, .int .i64 0] 24)).alloc (.cells #[.string t, .int .i64 0, .int .i64 0] 54)) (.slice none 0 0) 0 0
  have eg : (w.alloc (.cells #[.slice none 0 0, .int .i64 0, .int .i64 0] 24)).heap.size = w.heap.size + 1 := by simp
  have eg2 : ((w.alloc (.cells #[.slice none 0 0, .int .i64 0, .int .i64 0] 24)).alloc (.cells #[.string t, .int .i64 0, .int .i64 0] 54)).heap.size = w.heap.size + 1 + 1 := by simp
  rw [eg] at hR0
  rw [eg2] at hS0
  have hG0 := grown_up (grown_up ga gb) gc
  have hsz : (((w.alloc (.cells #[.slice none 0 0, .int .i64 0, .int .i64 0] 24)).alloc (.cells #[.string t, .int .i64 0, .int .i64 0] 54)).alloc (.cells #[.slice none 0 0, .int .i64 0, .int .i64 0] 24)).heap.size = w.heap.size + 3 := by simp
  obtain ⟨wb, HB⟩ : ∃ wb, Hid (wb = ((w.alloc (.cells #[.slice none 0 0, .int .i64 0, .int .i64 0] 24)).alloc (.cells #[.string t, .int .i64 0, .int .i64 0] 54)).alloc (.cells #[.slice none 0 0, .int .i64 0, .int .i64 0] 24)) := ⟨_, rfl⟩
  rw [← HB.out] at hR0 hO0 hS0 hG0 hsz
  clear ga gb gc eg eg2 ht
  obtain ⟨n, Hn⟩ : ∃ n, Hid (n1 t 0 = n) := ⟨_, rfl⟩
  have hn256 : n < 256 := by rw [← Hn.out]; exact n1_lt t 0
  obtain ⟨s1, Hs1⟩ : ∃ s1, Hid (n1S t 0 = s1) := ⟨_, rfl⟩
  obtain ⟨e1, He1⟩ : ∃ e1, Hid (n1E t 0 = e1) := ⟨_, rfl⟩
  go_enter Try.func8, Try.ntmps8
  go_wp2_with fail
  rw [← HB.out]
  refine (rfn1_any _ t 0 0 _ hR0 (Nat.zero_le _) Ht.out).mono ?_
  rintro e w1 ⟨rfl, p1, hp1, hr1, hR1, hg1⟩
  rw [rest_self] at hr1 hR1
  rw [rest_self, Hn.out]
  rw [Hs1.out] at hr1
  rw [He1.out] at hR1
  have hO1 := hO0.kept hg1 (by simp)
  have hS1 := hS0.kept hg1 (by simp)
  have hG1 := grown_new hG0 hg1 (fun k hk => by cases hk; omega)
  have hg1s := hg1.size
  rw [hsz] at hg1s
  clear hR0 hO0 hS0 hG0 hg1
  generalize hrb : w.heap.size + 1 = rb at *
  generalize hsb : rb + 1 = sb at *
  generalize hog : w.heap.size = og at *
  go_wp2_with fail
  go_loopw [7] (fun i wr => ∃ (j : Nat) (acc : List Int) (p : Nat) (e : Int) (kv : Value), j ≤ n ∧ i = .int .u64 j ∧ Hid (acc ++ kL (n - j) (rest t p) e = kL n s1 e1) ∧ Hid (kS (n - j) (rest t p) e = kS n s1 e1 ∧ kE (n - j) (rest t p) e = kE n s1 e1) ∧ Hid (p ≤ t.size ∧ acc.length ≤ j) ∧ Sb wr sb kv 0 0 ∧ OwnK wr (sb + 1) kv acc ∧ Rf wr rb t p e ∧ Sb wr og (.slice none 0 0) 0 0 ∧ w.grownBy wr none ∧ sb < wr.heap.size) (fun i _ => n - (intOf i).toNat)
  case atStart => exact ⟨0, [], p1, e1, _, Nat.zero_le _, rfl, by show _ = _; rw [hr1]; rfl, by show _ ∧ _; rw [hr1]; exact ⟨rfl, rfl⟩, ⟨hp1, Nat.zero_le _⟩, hS1, OwnK.nil _ _, hR1, hO1, hG1, hS1.lt⟩
  case round =>
    clear hR1 hO1 hS1 hG1 hr1 hp1
    obtain ⟨j, acc, p, e, kv, hj, rfl, Hl, Hd, Hq, hS, ho, hR, hO, hg, hsl⟩ := hrel
    have hgs := hg.size
    by_cases hlt : j < n
    · have hji : (j : Int) < (n : Int) := by omega
      have Hm : Hid (n - j = (n - (j + 1)) + 1) := by show _ = _; omega
      rw [Hm.out] at Hl Hd
      have hk256 := n1_lt (rest t p) e
      have Hl2 : Hid ((acc ++ [(n1 (rest t p) e : Int)]) ++ kL (n - (j + 1)) (n1S (rest t p) e) (n1E (rest t p) e) = kL n s1 e1) := by
        show _ = _
        rw [← Hl.out]
        simp [kL]
      have Hd2 : Hid (kS (n - (j + 1)) (n1S (rest t p) e) (n1E (rest t p) e) = kS n s1 e1 ∧ kE (n - (j + 1)) (n1S (rest t p) e) (n1E (rest t p) e) = kE n s1 e1) := Hd.out
      have Hb3 : Hid ((acc.length + 1) * 8 ≤ 140737488355328 ∧ acc.length + 1 ≤ maxLen) := by
        have h1 := Hq.out.2
        show _ ∧ _
        unfold maxLen
        omega
      have Hrow2 : Hid (∀ z, kv.ownBlock = some z → sb + 1 ≤ z) := fun z hz => (ho.lt z hz).1
      obtain ⟨ka, kc, hkv⟩ := ho.shape1
      obtain ⟨k, Hkk⟩ : ∃ k, Hid (n1 (rest t p) e = k) := ⟨_, rfl⟩
      rw [Hkk.out] at hk256 Hl2
      have hkvn : kv.ownBlock = none ∨ kv.ownBlock ≠ some rb := .inr (fun h => by have := Hrow2.out rb h; omega)
      have hkvo : some og ≠ kv.ownBlock := fun h => by have := Hrow2.out og h.symm; omega
      have hkvs' : some sb ≠ kv.ownBlock := fun h => by have := Hrow2.out sb h.symm; omega
      have hkvr : some rb ≠ kv.ownBlock := fun h => by have := Hrow2.out rb h.symm; omega
      have Hwk : Hid (IntKind.i64.wrap (k : Int) = (k : Int)) := by show _ = _; rw [IntKind.wrap_i64]; omega
      clear Hl Hd Hm
      subst hkv
      go_wp2_with fail
      refine (rfn1_any rb t p e _ hR Hq.out.1 Ht.out).mono ?_
      rintro x1 w2 ⟨rfl, p2, hp2, hr2, hR2, hg2⟩
      rw [Hkk.out]
      have hS2 := hS.kept hg2 (by simp; omega)
      have c2 := hS2.c0
      have hO2 := hO.kept hg2 (by simp; omega)
      have ho2 := ho.kept hg2 hkvn
      have hG2 := grown_new hg hg2 (fun z hz => by cases hz; omega)
      have hl2 : sb + 1 ≤ w2.heap.size := Nat.le_trans hsl hg2.size
      clear hS hO ho hg hR
      go_wp2_with (at_builtin; refine wpList_append_row _ rfl (.tmp 24) (.tmp 27) 22 22 rfl (sb + 1) 36 i0 _ 1 8 Try.underlying22 hi hz0 rfl hz1 hz2 (.slice ka acc.length kc) _ _ rfl (ho2.alloc _) _ 1 (kcs [(k : Int)]) rfl (src_kind _ 22 36 Try.underlying22 (k : Int) _ rfl) (by omega) Hb3.out.1 Hb3.out.2 (by simp; omega) ?_; intro v4 w4 ho4 hg4 hv4; obtain ⟨a4, m4, rfl⟩ := row_shape ho4; have hgal := World.grownBy_alloc w2 (.cells #[.int .i64 (k : Int)] 36) none; have hS4 := (hS2.keptN hgal).kept hg4 hkvs'; have c4 := hS4.c0; have f4 := hS4.fz 0)
      have hst := set_grown w4 sb 0 (.slice a4 (acc.length + 1) m4)
      have ho5 : OwnK w4 (sb + 1) (.slice a4 (acc.length + 1) m4) (acc ++ [(k : Int)]) := by
        unfold OwnK
        have e1 : kcs (acc ++ [(k : Int)]) = kcs acc ++ kcs [(k : Int)] := by simp [kcs]
        rw [e1, List.length_append]
        exact ho4
      have hv4s : (Value.slice a4 (acc.length + 1) m4).ownBlock = none ∨ (Value.slice a4 (acc.length + 1) m4).ownBlock ≠ some sb := .inr (fun h => by have := (ho5.lt sb h).1; omega)
      have hS5 := hS4.set0 (.slice a4 (acc.length + 1) m4)
      have hR5 := ((hR2.kept hgal (by simp)).kept hg4 hkvr).kept hst (by simp; omega)
      have hO5 := ((hO2.keptN hgal).kept hg4 hkvo).kept hst (by simp; omega)
      have hG5 := grown_new (grown_new (grown_up hG2 hgal) hg4 (fun z hz => by have := Hrow2.out z hz; omega)) hst (fun z hz => by cases hz; omega)
      go_roundw
      case rel => exact ⟨j + 1, _, p2, _, _, by omega, by go_num, by show _ = _; rw [hr2]; exact Hl2.out, by show _ ∧ _; rw [hr2]; exact Hd2.out, ⟨hp2, by have := Hq.out.2; simp; omega⟩, hS5, ho5.kept hst hv4s, hR5, hO5, hG5, hS5.lt⟩
      case measure => simp [intOf]; omega
    · have hji : ¬ (j : Int) < (n : Int) := by omega
      have ej : n - j = 0 := by omega
      rw [ej] at Hl Hd
      have HK : Hid (acc = kL n s1 e1) := by have := Hl.out; simp only [kL, List.append_nil] at this; exact this
      have HS2 : Hid (rest t p = kS n s1 e1 ∧ e = kE n s1 e1) := Hd.out
      obtain ⟨ka, kc, hkv⟩ := ho.shape1
      have Hrow2 : Hid (∀ z, kv.ownBlock = some z → sb + 1 ≤ z) := fun z hz => (ho.lt z hz).1
      obtain ⟨q, Hqq⟩ : ∃ q, Hid (rest t p = q) := ⟨_, rfl⟩
      have hu256 := n1_lt q e
      have hx256 := n1_lt (n1S q e) (n1E q e)
      have HU : Hid (unRaw t = ⟨acc, n1 q e, n1 (n1S q e) (n1E q e), doneE (n1S (n1S q e) (n1E q e)) (n1E (n1S q e) (n1E q e))⟩) := by
        show _ = _
        unfold unRaw
        dsimp only
        rw [Hn.out, Hs1.out, He1.out, HK.out, ← Hqq.out, HS2.out.1, HS2.out.2]
      clear Hl Hd ej HK HS2
      obtain ⟨uu, Huu⟩ : ∃ uu, Hid (n1 q e = uu) := ⟨_, rfl⟩
      obtain ⟨xx, Hxx⟩ : ∃ xx, Hid (n1 (n1S q e) (n1E q e) = xx) := ⟨_, rfl⟩
      obtain ⟨D, HD⟩ : ∃ D, Hid (doneE (n1S (n1S q e) (n1E q e)) (n1E (n1S q e) (n1E q e)) = D) := ⟨_, rfl⟩
      rw [Huu.out, Hxx.out, HD.out] at HU
      rw [Huu.out] at hu256
      rw [Hxx.out] at hx256
      subst hkv
      go_wp2_with fail
      refine (rfn1_any rb t p e _ hR Hq.out.1 Ht.out).mono ?_
      rintro x1 w2 ⟨rfl, p2, hp2, hr2, hR2, hg2⟩
      rw [Hqq.out] at hr2 hR2
      rw [Hqq.out, Huu.out]
      have hS2 := hS.kept hg2 (by simp; omega)
      have hO2 := hO.kept hg2 (by simp; omega)
      have ho2 := ho.kept hg2 (.inr (fun h => by have := Hrow2.out rb h; omega))
      have hG2 := grown_new hg hg2 (fun z hz => by cases hz; omega)
      clear hS hO ho hg hg2 hR
      go_wp2_with fail
      refine (rfn1_any rb t p2 _ _ hR2 hp2 Ht.out).mono ?_
      rintro x2 w4 ⟨rfl, p4, hp4, hr4, hR4, hg4⟩
      rw [hr2] at hr4 hR4
      rw [hr2, Hxx.out]
      have hS4 := hS2.kept hg4 (by simp; omega)
      have hO4 := hO2.kept hg4 (by simp; omega)
      have ho4 := ho2.kept hg4 (.inr (fun h => by have := Hrow2.out rb h; omega))
      have hG4 := grown_new hG2 hg4 (fun z hz => by cases hz; omega)
      have c1 := hS4.c1
      have c2 := hS4.c2
      have f1 := hS4.fz 1
      have f2 := hS4.fz 2
      clear hS2 hR2 hO2 ho2 hG2 hg4
      have hst4 := grown_trans (set_grown w4 sb 1 (.int .i64 (uu : Int))) (set_grown (w4.setCell ⟨sb, 1, none⟩ (.int .i64 (uu : Int))) sb 2 (.int .i64 (xx : Int))) (.inl rfl)
      have hS5 := (hS4.set1 (uu : Int)).set2 (xx : Int)
      have hR5 := hR4.kept hst4 (by simp; omega)
      have hO5 := hO4.kept hst4 (by simp; omega)
      have ho5 := ho4.kept hst4 (.inr (fun h => by have := Hrow2.out sb h; omega))
      have hG5 := grown_new hG4 hst4 (fun z hz => by cases hz; omega)
      obtain ⟨w5, Hw5⟩ : ∃ w5, Hid (w5 = (w4.setCell ⟨sb, 1, none⟩ (.int .i64 (uu : Int))).setCell ⟨sb, 2, none⟩ (.int .i64 (xx : Int))) := ⟨_, rfl⟩
      rw [← Hw5.out] at hS5 hR5 hO5 ho5 hG5
      clear hS4 hR4 hO4 ho4 hG4 hst4
      go_wp2_with fail
      rw [← Hw5.out]
      refine (rfdone_any rb t p4 _ _ hR5 hp4 Ht.out).mono ?_
      rintro x3 w6 ⟨rfl, hg6⟩
      rw [hr4, HD.out]
      clear c1 f1 c2 f2 hR5 Hw5
      replace hS5 := hS5.keptN hg6
      replace hO5 := hO5.keptN hg6
      replace ho5 := ho5.kept hg6 (by cases (Value.slice ka acc.length kc).ownBlock <;> simp)
      replace hG5 := grown_up hG5 hg6
      have q0 := hS5.c0
      have q1 := hS5.c1
      have q2 := hS5.c2
      have hog2 : some og ≠ (Value.slice ka acc.length kc).ownBlock := fun h => by have := Hrow2.out og h.symm; omega
      have Hogw : Hid (∀ z, some og = some z → w.heap.size ≤ z) := fun z hz => by cases hz; omega
      by_cases hD : D = 0
      · subst hD
        go_wp2_with fail
        refine (rright_any _ acc (uu : Int) (xx : Int) _ ho5.kd).mono ?_
        rintro x4 w7 ⟨rfl, hg7⟩
        have hS7 := hS5.keptN hg7
        have hO7 := hO5.keptN hg7
        have ho7 := ho5.kept hg7 (by cases (Value.slice ka acc.length kc).ownBlock <;> simp)
        have hG7 := grown_up hG5 hg7
        have p0 := hS7.c0
        have p1 := hS7.c1
        have p2 := hS7.c2
        have o0 := hO7.c0
        have o1 := hO7.c1
        have o2 := hO7.c2
        have z0 := hO7.fz 0
        have z1 := hO7.fz 1
        have z2 := hO7.fz 2
        clear q0 q1 q2 hS5 hO5 ho5 hG5 hg7
        by_cases hr : rightS acc (uu : Int) (xx : Int) = true
        · rw [hr]
          have he := hO7.end3 (.slice ka acc.length kc) (uu : Int) (xx : Int)
          have hoe := ho7.kept he.2 (.inr (Ne.symm hog2))
          go_wp2_with fail
          refine bodyPost_ret (results_sb rfl _ og _ _ _ _ _ rfl rfl he.1 _ _ _ rfl) rfl ?_
          exact ⟨_, _, _, _, rfl, toldS_ok HU.out hr hoe.kd, grown_new hG7 he.2 Hogw.out⟩
        · have hr' : rightS acc (uu : Int) (xx : Int) = false := by simpa using hr
          rw [hr']
          have he := hO7.end3 (.slice none 0 0) 0 0
          go_wp2_with fail
          refine bodyPost_ret (results_sb rfl _ og _ _ _ _ _ rfl rfl he.1 _ _ _ rfl) rfl ?_
          exact ⟨_, _, _, _, rfl, toldS_bad (unOk_bad HU.out (fun h => hr h.2)), grown_new hG7 he.2 Hogw.out⟩
      · have hD' : (D != 0) = true := by simp [hD]
        have he := hO5.end3 (.slice none 0 0) 0 0
        have o0 := hO5.c0
        have o1 := hO5.c1
        have o2 := hO5.c2
        have z0 := hO5.fz 0
        have z1 := hO5.fz 1
        have z2 := hO5.fz 2
        clear q0 q1 q2
        go_wp2_with fail
        refine bodyPost_ret (results_sb rfl _ og _ _ _ _ _ rfl rfl he.1 _ _ _ rfl) rfl ?_
        exact ⟨_, _, _, _, rfl, toldS_bad (unOk_bad HU.out (fun h => hD h.1)), grown_new hG5 he.2 Hogw.out⟩

end Go.Proofs.Ytiledkdoabdnnab
