/- Contract, over the turned program: the reference's Read of rows answers as the plain words say. Conditions: those that the theorem states. -/
import Derived.Test.YtiledkdoabdnnaaRRefRow
namespace Go.Proofs.Ytiledkdoabdnnaa
open Go.RowKit
set_option linter.unusedVariables false

theorem grown_set (w : World) (g j : Nat) (v : Value) : w.grownBy (w.setCell ⟨g, j, none⟩ v) (some g) := ⟨rfl, rfl, rfl, by simp, fun k _ hk => heap_setCell_other w _ k _ (fun hb => hk (by simp [hb]))⟩
theorem OwnV.new (w : World) (x : V) (base : Nat) (hb : base ≤ w.heap.size) : OwnV (w.alloc (.cells #[.int .i64 x.k, .int .i64 x.n, .string x.s] 29)) base (.slice (some ⟨w.heap.size, 0, none⟩) 1 1) [x] :=
  ⟨by simp [vcs, V.cells], .inr ⟨w.heap.size, 1, _, rfl, hb, heap_alloc_new w _, Nat.le_refl _, by decide, rfl, rfl⟩⟩

set_option maxRecDepth 100000 in
set_option maxHeartbeats 1600000 in
theorem rrowsRead_any (kv : Value) (ks : List Int) (u x : Int) (key rst : ByteArray) (w : World) (hK : Kd w kv ks) (hk : key.size ≤ 1099511627776) (hr : rst.size ≤ maxLen) :
    Calls Try.prog 19 #[sval kv u x, .string key, .string rst] w fun e w' => ∃ v er, e = .returned (.tuple #[v, .int .i64 er]) ∧ ToldL w' w.heap.size (rdRow ks u x key.data.toList rst) v er ∧ w.grownBy w' none := by
  have hga := World.grownBy_alloc w (.cells #[kv, .int .i64 u, .int .i64 x] 24) none
  have hS := Sb.new w kv u x
  have hKa := hK.keptN hga
  have hgas : w.heap.size < (w.alloc (.cells #[kv, .int .i64 u, .int .i64 x] 24)).heap.size := by simp
  obtain ⟨wa, Ha⟩ : ∃ wa, Hid (wa = w.alloc (.cells #[kv, .int .i64 u, .int .i64 x] 24)) := ⟨_, rfl⟩
  rw [← Ha.out] at hga hS hKa hgas
  obtain ⟨i0, hi, hz0, hz1, hz2⟩ := info_parts Try.info29
  have Hk : Hid (key.size ≤ 1099511627776) := hk
  have Hr : Hid (rst.size ≤ maxLen) := hr
  unfold sval
  clear hk hr
  by_cases hright : rightS ks u x = true
  · have hlen := rightS_len ks u x hright
    cases hp : pRead key.data.toList with
    | error e0 =>
      have hE : Hid (rdRow ks u x key.data.toList rst = .error 10) := rdRow_err hright hp
      have Hp : Hid (pRead key.data.toList = .error e0) := hp
      have hne : (e0 != 0) = true := by rcases pRead_errs _ _ hp with rfl | rfl <;> rfl
      clear hp
      go_enter Try.func19, Try.ntmps19
      go_wp2_with fail
      rw [← Ha.out]
      refine (rright_any _ ks u x _ hKa).mono ?_
      rintro e w1 ⟨rfl, hg1⟩
      rw [hright]
      go_wp2_with (go_at_call 35; refine (rread_any _ _ Hk.out).mono ?_; rintro e w2 ⟨v2, er2, rfl, hT2, hg2⟩; rw [Hp.out] at hT2; obtain ⟨rfl, rfl⟩ := hT2)
      go_ret2
      rw [hE.out]
      exact ⟨_, _, rfl, ⟨rfl, rfl⟩, grown_up (grown_up hga hg1) hg2⟩
    | ok l =>
      have Hp : Hid (pRead key.data.toList = .ok l) := hp
      have hsz : key.data.toList.length = key.size := by rw [Array.length_toList]; rfl
      have Hwl : Hid (∀ y ∈ l, y.wf) := (pRead_back _ (by rw [hsz]; have := Hk.out; unfold maxLen; omega) l hp).2.2.1
      clear hsz
      by_cases hl : l.length = 1
      · obtain ⟨y0, rfl⟩ : ∃ y0, l = [y0] := List.length_eq_one_iff.1 hl
        obtain ⟨ka, kc, rfl, hkc, hkm, hkL⟩ := hKa
        have hKa2 : Kd wa (.slice ka ks.length kc) ks := ⟨ka, kc, rfl, hkc, hkm, hkL⟩
        have hklm : ks.length ≤ maxLen := Nat.le_trans hkc hkm
        unfold maxLen at hklm
        obtain ⟨others, Ho⟩ : ∃ others, Hid (restL (ks.drop 1) rst 0 = others) := ⟨_, rfl⟩
        obtain ⟨D, HD⟩ : ∃ D, Hid (restD (ks.drop 1) rst 0 = D) := ⟨_, rfl⟩
        have Hrow : Hid (∀ y ∈ y0 :: others, y.wf) := by
          intro y hy
          rcases List.mem_cons.1 hy with h | h
          · exact Hwl.out y (by simp [h])
          · rw [← Ho.out] at h; exact restL_wf _ _ _ y h
        have HX : Hid (rdRow ks u x key.data.toList rst = if D = 0 ∧ fitE ks u x (y0 :: others) = 0 then .ok (y0 :: others) else .error 10) := by
          show _ = _
          by_cases h3 : restD (ks.drop 1) rst 0 = 0 ∧ fitE ks u x (y0 :: restL (ks.drop 1) rst 0) = 0
          · rw [rdRow_ok hright hp ⟨rfl, h3⟩, ← HD.out, ← Ho.out, if_pos h3]; rfl
          · rw [rdRow_bad hright hp (fun h => h3 h.2), ← HD.out, ← Ho.out, if_neg h3]
        have HkL : Hid (∀ i (h : i < ks.length), ∃ b off, ka = some ⟨b, off, none⟩ ∧ b < wa.heap.size ∧ wa.cell? ⟨b, off + i, none⟩ = some (.int .i64 ks[i])) := hkL
        clear hp hkL hkc hkm hl Hwl
        go_enter Try.func19, Try.ntmps19
        go_wp2_with fail
        rw [← Ha.out]
        refine (rright_any _ ks u x _ hKa2).mono ?_
        rintro e w1 ⟨rfl, hg1⟩
        rw [hright]
        go_wp2_with fail
        refine (rread_any _ _ Hk.out).mono ?_
        rintro e w2 ⟨v2, er2, rfl, hT2, hg2⟩
        rw [Hp.out] at hT2
        obtain ⟨rfl, ho2⟩ := hT2
        have hG2 : wa.grownBy w2 none := grown_up hg1 hg2
        have hT := ho2.tup
        obtain ⟨a2, cc2, rfl, hcc, hcm, hLL⟩ := hT
        obtain ⟨b2, off2, rfl, hb2, y0k, y0n, y0s⟩ := hLL 0 (by simp)
        have y0k' : w2.cell? ⟨b2, off2, none⟩ = some (.int .i64 y0.k) := y0k
        have y0n' : w2.cell? ⟨b2, off2 + 1, none⟩ = some (.int .i64 y0.n) := y0n
        have y0s' : w2.cell? ⟨b2, off2 + 2, none⟩ = some (.string y0.s) := y0s
        have hG2s := hG2.size
        have hga3 := World.grownBy_alloc w2 (.cells #[.int .i64 y0.k, .int .i64 y0.n, .string y0.s] 29) none
        have ho3 := OwnV.new w2 y0 wa.heap.size hG2s
        have hga4 := World.grownBy_alloc (w2.alloc (.cells #[.int .i64 y0.k, .int .i64 y0.n, .string y0.s] 29)) (.cells #[.string rst, .int .i64 0, .int .i64 0] 61) none
        have hR4 := Rf.new (w2.alloc (.cells #[.int .i64 y0.k, .int .i64 y0.n, .string y0.s] 29)) rst
        have eg : (w2.alloc (.cells #[.int .i64 y0.k, .int .i64 y0.n, .string y0.s] 29)).heap.size = w2.heap.size + 1 := by simp
        rw [eg] at hR4
        have ho4 := ho3.kept hga4 (.inr (by simp [Value.ownBlock]))
        have hG4 := grown_up (grown_up hG2 hga3) hga4
        clear hg1 hg2 ho2 hLL y0k y0n y0s hga3 hga4 ho3 eg hG2 hb2 hcc hcm
        go_wp2_with fail
        have hrbw : wa.heap.size ≤ w2.heap.size + 1 := by omega
        have hne0 : (Value.slice (some ⟨w2.heap.size, 0, none⟩) 1 1).ownBlock ≠ some (w2.heap.size + 1) := by simp [Value.ownBlock]
        obtain ⟨wb, HB⟩ : ∃ wb, Hid (wb = (w2.alloc (.cells #[.int .i64 y0.k, .int .i64 y0.n, .string y0.s] 29)).alloc (.cells #[.string rst, .int .i64 0, .int .i64 0] 61)) := ⟨_, rfl⟩
        rw [← HB.out] at hR4 ho4 hG4
        rw [← HB.out]
        clear y0k' y0n' y0s'
        generalize w2.heap.size + 1 = rb at *
        go_loopw [10, 12] (fun v i wr => ∃ (j : Nat) (acc : List V) (p : Nat) (e : Int), 1 ≤ j ∧ j ≤ ks.length ∧ i = .int .i64 j ∧ Hid (acc ++ restL (ks.drop j) (rest rst p) e = y0 :: others) ∧ Hid (restD (ks.drop j) (rest rst p) e = D) ∧ Hid (p ≤ rst.size ∧ acc.length ≤ j) ∧ OwnV wr wa.heap.size v acc ∧ v.ownBlock ≠ some rb ∧ Rf wr rb rst p e ∧ wa.grownBy wr none) (fun _ i _ => ks.length - (intOf i).toNat)
        case atStart => exact ⟨1, [y0], 0, 0, Nat.le_refl _, hlen.1, rfl, by show _ = _; rw [rest_self, Ho.out]; rfl, by show _ = _; rw [rest_self, HD.out], ⟨Nat.zero_le _, by simp⟩, ho4, hne0, hR4, hG4⟩
        case round =>
          clear ho4 hne0 hR4 hG4
          obtain ⟨j, acc, p, e, hj1, hj, rfl, Hl, Hd, Hq, ho, hne, hR, hg⟩ := hrel
          have hgs := hg.size
          have hRl := hR.lt
          have s0 := (hS.keptN hg).c0
          by_cases hlt : j < ks.length
          · obtain ⟨kb, koff, rfl, hkb, k0⟩ := HkL.out j hlt
            rw [← cell_same (hg.block kb hkb (by simp))] at k0
            have hji : (j : Int) < (ks.length : Int) := by omega
            have Hb3 : Hid ((acc.length + 1) * 32 ≤ 140737488355328 ∧ acc.length + 1 ≤ maxLen) := by
              have h1 := Hq.out.2
              show _ ∧ _
              unfold maxLen
              omega
            have Hdr : Hid (ks.drop j = ks[j] :: ks.drop (j + 1)) := List.drop_eq_getElem_cons hlt
            generalize ks[j] = k at *
            have Hl2 : Hid ((acc ++ [stV k (rest rst p) e]) ++ restL (ks.drop (j + 1)) (stS k (rest rst p) e) (stE k (rest rst p) e) = y0 :: others) := by
              show _ = _
              rw [← Hl.out, Hdr.out]
              simp [restL]
            have Hd2 : Hid (restD (ks.drop (j + 1)) (stS k (rest rst p) e) (stE k (rest rst p) e) = D) := by
              show _ = _
              rw [← Hd.out, Hdr.out]
              rfl
            have Hrow2 : Hid (∀ q, u10.ownBlock = some q → wa.heap.size ≤ q) := fun q hq => (ho.lt q hq).1
            have hnv : u10.ownBlock ≠ some wr.heap.size := fun h => by have := (ho.lt _ h).2; omega
            have hal := World.grownBy_alloc wr (.cells #[.int .i64 k, .int .i64 0, .string ⟨#[]⟩] 29) none
            have hV := Vb.new wr ⟨k, 0, ⟨#[]⟩⟩
            have hRa := hR.kept hal (by simp)
            have hoa := ho.kept hal (by cases u10.ownBlock <;> simp)
            have hGa := grown_up hg hal
            have hsa : (wr.alloc (.cells #[.int .i64 k, .int .i64 0, .string ⟨#[]⟩] 29)).heap.size = wr.heap.size + 1 := by simp
            clear Hl Hd Hdr hal ho hR hg
            by_cases hk1 : k = 1
            · have hk' : (k == 1) = true := by simp [hk1]
              obtain ⟨N, HN⟩ : ∃ N : Int, Hid (wrap64 (val (rawR (rest rst p) e (wid 8)).data.toList : Int) = N) := ⟨_, rfl⟩
              have Hx : Hid (stV k (rest rst p) e = ⟨k, N, ⟨#[]⟩⟩ ∧ stS k (rest rst p) e = rawS (rest rst p) e (wid 8) ∧ stE k (rest rst p) e = rawE (rest rst p) e (wid 8)) := by
                unfold stV stS stE
                rw [if_pos hk1, if_pos hk1, if_pos hk1, HN.out]
                exact ⟨rfl, rfl, rfl⟩
              clear hk1
              go_wp2_with fail
              refine (rfrnum_any rb rst p e 8 _ hRa Hq.out.1 Hr.out).mono ?_
              rintro e1 w3 ⟨rfl, p', hp', hrest', hR3, hg3⟩
              have hV3 := hV.kept hg3 (by simp; omega)
              have d0 := hV3.c0; have d1 := hV3.c1; have d2 := hV3.c2; have f0 := hV3.fz 0; have f1 := hV3.fz 1; have f2 := hV3.fz 2
              dsimp only at d0 d1 d2
              have hst := grown_set w3 wr.heap.size 1 (.int .i64 N)
              have ho3 := (hoa.kept hg3 (.inr hne)).kept hst (.inr hnv)
              have hR5 := hR3.kept hst (by simp; omega)
              have hG5 := grown_new (grown_new hGa hg3 (fun q hq => by cases hq; exact hrbw)) hst (fun q hq => by cases hq; exact hgs)
              have h3s := hg3.size
              have hs5 : (w3.setCell ⟨wr.heap.size, 1, none⟩ (.int .i64 N)).heap.size = w3.heap.size := by simp
              clear hV3 hV hRa hoa hR3 hg3 hst
              go_wp2_with (at_builtin; rw [HN.out]; refine wpList_append_row _ rfl (.tmp 61) (.tmp 63) 26 26 rfl wa.heap.size 29 i0 _ 3 32 Try.underlying26 hi hz0 rfl hz1 hz2 u10 _ _ rfl (ho3.alloc _) _ 1 (vcs [⟨k, N, ⟨#[]⟩⟩]) rfl (src_val _ 26 29 Try.underlying26 ⟨k, N, ⟨#[]⟩⟩ _ (by simp)) (by omega) Hb3.out.1 Hb3.out.2 (by simp at h3s ⊢; omega) ?_; intro v4 w4 ho4 hg4 hv4)
              have hgal := World.grownBy_alloc (w3.setCell ⟨wr.heap.size, 1, none⟩ (.int .i64 N)) (.cells #[.int .i64 k, .int .i64 N, .string ⟨#[]⟩] 29) none
              have hG6 := grown_new (grown_up hG5 hgal) hg4 Hrow2.out
              have hR6 := (hR5.kept hgal (by simp)).kept hg4 (fun h => hne h.symm)
              have ho6 : OwnV w4 wa.heap.size v4 (acc ++ [⟨k, N, ⟨#[]⟩⟩]) := by
                unfold OwnV
                rw [vcs_append, List.length_append]
                exact ho4
              have hne4 : v4.ownBlock ≠ some rb := by
                rcases hv4 with h | h
                · rw [h]; exact hne
                · rw [h]; simp at h3s ⊢; omega
              go_roundw
              case rel => exact ⟨j + 1, _, p', _, by omega, by omega, by go_num, by show _ = _; rw [← Hl2.out, Hx.out.1, Hx.out.2.1, Hx.out.2.2, hrest'], by show _ = _; rw [← Hd2.out, Hx.out.2.1, Hx.out.2.2, hrest'], ⟨hp', by have := Hq.out.2; simp; omega⟩, ho6, hne4, hR6, hG6⟩
              case measure => simp [intOf]; omega
            · have hk' : (k == 1) = false := by simp [hk1]
              obtain ⟨N, HN⟩ : ∃ N : ByteArray, Hid (strR (rest rst p) e 10 = N) := ⟨_, rfl⟩
              have Hx : Hid (stV k (rest rst p) e = ⟨k, 0, N⟩ ∧ stS k (rest rst p) e = strS (rest rst p) e 10 ∧ stE k (rest rst p) e = strE (rest rst p) e 10) := by
                unfold stV stS stE
                rw [if_neg hk1, if_neg hk1, if_neg hk1, HN.out]
                exact ⟨rfl, rfl, rfl⟩
              clear hk1
              go_wp2_with fail
              refine (rfrstr_any rb rst p e 10 _ hRa Hq.out.1 Hr.out).mono ?_
              rintro e1 w3 ⟨rfl, p', hp', hrest', hR3, hg3⟩
              rw [HN.out]
              have hV3 := hV.kept hg3 (by simp; omega)
              have d0 := hV3.c0; have d1 := hV3.c1; have d2 := hV3.c2; have f0 := hV3.fz 0; have f1 := hV3.fz 1; have f2 := hV3.fz 2
              dsimp only at d0 d1 d2
              have hst := grown_set w3 wr.heap.size 2 (.string N)
              have ho3 := (hoa.kept hg3 (.inr hne)).kept hst (.inr hnv)
              have hR5 := hR3.kept hst (by simp; omega)
              have hG5 := grown_new (grown_new hGa hg3 (fun q hq => by cases hq; exact hrbw)) hst (fun q hq => by cases hq; exact hgs)
              have h3s := hg3.size
              have hs5 : (w3.setCell ⟨wr.heap.size, 2, none⟩ (.string N)).heap.size = w3.heap.size := by simp
              clear hV3 hV hRa hoa hR3 hg3 hst
              go_wp2_with (at_builtin; refine wpList_append_row _ rfl (.tmp 61) (.tmp 63) 26 26 rfl wa.heap.size 29 i0 _ 3 32 Try.underlying26 hi hz0 rfl hz1 hz2 u10 _ _ rfl (ho3.alloc _) _ 1 (vcs [⟨k, 0, N⟩]) rfl (src_val _ 26 29 Try.underlying26 ⟨k, 0, N⟩ _ (by simp)) (by omega) Hb3.out.1 Hb3.out.2 (by simp at h3s ⊢; omega) ?_; intro v4 w4 ho4 hg4 hv4)
              have hgal := World.grownBy_alloc (w3.setCell ⟨wr.heap.size, 2, none⟩ (.string N)) (.cells #[.int .i64 k, .int .i64 0, .string N] 29) none
              have hG6 := grown_new (grown_up hG5 hgal) hg4 Hrow2.out
              have hR6 := (hR5.kept hgal (by simp)).kept hg4 (fun h => hne h.symm)
              have ho6 : OwnV w4 wa.heap.size v4 (acc ++ [⟨k, 0, N⟩]) := by
                unfold OwnV
                rw [vcs_append, List.length_append]
                exact ho4
              have hne4 : v4.ownBlock ≠ some rb := by
                rcases hv4 with h | h
                · rw [h]; exact hne
                · rw [h]; simp at h3s ⊢; omega
              go_roundw
              case rel => exact ⟨j + 1, _, p', _, by omega, by omega, by go_num, by show _ = _; rw [← Hl2.out, Hx.out.1, Hx.out.2.1, Hx.out.2.2, hrest'], by show _ = _; rw [← Hd2.out, Hx.out.2.1, Hx.out.2.2, hrest'], ⟨hp', by have := Hq.out.2; simp; omega⟩, ho6, hne4, hR6, hG6⟩
              case measure => simp [intOf]; omega
          · have hji : ¬ (j : Int) < (ks.length : Int) := by omega
            have ej : ks.drop j = [] := List.drop_eq_nil_of_le (by omega)
            rw [ej] at Hl Hd
            have Hl2 : Hid (acc = y0 :: others) := by have := Hl.out; simp only [restL, List.append_nil] at this; exact this
            have Hd2 : Hid (doneE (rest rst p) e = D) := Hd.out
            rw [Hl2.out] at ho
            clear Hl Hd ej
            by_cases hD : D = 0
            · subst hD
              go_wp2_with fail
              refine (rfdone_any rb rst p e _ hR Hq.out.1 Hr.out).mono ?_
              rintro e1 w3 ⟨rfl, hg3⟩
              rw [Hd2.out]
              have hG3 := grown_up hg hg3
              have q0 := (hS.keptN hG3).c0
              have q1 := (hS.keptN hG3).c1
              have q2 := (hS.keptN hG3).c2
              have ho3 := ho.kept hg3 (by cases u10.ownBlock <;> simp)
              clear s0 hR ho hg hg3
              go_wp2_with fail
              refine (rfits_row _ ks u x u10 (y0 :: others) _ (hKa2.keptN hG3) ho3.tup Hrow.out).mono ?_
              rintro e2 w5 ⟨rfl, hg5⟩
              have ho6 := (ho3.kept hg5 (by cases u10.ownBlock <;> simp)).weak (Nat.le_of_lt hgas)
              have HG : Hid (w.grownBy w5 none) := grown_up (grown_up hga hG3) hg5
              clear hG3 hg5 ho3
              rcases fitE_cases ks u x (y0 :: others) with hF | hF
              · have HX2 : Hid (rdRow ks u x key.data.toList rst = .ok (y0 :: others)) := by show _ = _; rw [HX.out, if_pos ⟨by first | rfl | trivial, hF⟩]
                rw [hF]
                go_wp2
                go_ret2
                rw [HX2.out]
                exact ⟨_, _, rfl, ⟨rfl, ho6⟩, HG.out⟩
              · have hF0 : fitE ks u x (y0 :: others) ≠ 0 := by simpa using hF
                have HX2 : Hid (rdRow ks u x key.data.toList rst = .error 10) := by show _ = _; rw [HX.out, if_neg (fun h => hF0 h.2)]
                generalize fitE ks u x (y0 :: others) = E at *
                go_wp2
                go_ret2
                rw [HX2.out]
                exact ⟨_, _, rfl, ⟨rfl, rfl⟩, HG.out⟩
            · have hD' : (D != 0) = true := by simp [hD]
              have HX2 : Hid (rdRow ks u x key.data.toList rst = .error 10) := by show _ = _; rw [HX.out, if_neg (fun h => hD h.1)]
              go_wp2_with fail
              refine (rfdone_any rb rst p e _ hR Hq.out.1 Hr.out).mono ?_
              rintro e1 w3 ⟨rfl, hg3⟩
              rw [Hd2.out]
              go_wp2
              go_ret2
              rw [HX2.out]
              exact ⟨_, _, rfl, ⟨rfl, rfl⟩, grown_up hga (grown_up hg hg3)⟩
      · have hl' : ((l.length : Int) != 1) = true := by simp; omega
        have hE : Hid (rdRow ks u x key.data.toList rst = .error 10) := rdRow_bad hright hp (fun h => hl h.1)
        clear hp
        go_enter Try.func19, Try.ntmps19
        go_wp2_with fail
        rw [← Ha.out]
        refine (rright_any _ ks u x _ hKa).mono ?_
        rintro e w1 ⟨rfl, hg1⟩
        rw [hright]
        go_wp2_with (go_at_call 35; refine (rread_any _ _ Hk.out).mono ?_; rintro e w2 ⟨v2, er2, rfl, hT2, hg2⟩; rw [Hp.out] at hT2; obtain ⟨rfl, ho2⟩ := hT2; obtain ⟨a2, c2, rfl⟩ := ho2.shape1)
        go_ret2
        rw [hE.out]
        exact ⟨_, _, rfl, ⟨rfl, rfl⟩, grown_up (grown_up hga hg1) hg2⟩
  · have hr' : rightS ks u x = false := by simpa using hright
    have hE : Hid (rdRow ks u x key.data.toList rst = .error 4) := rdRow_wrong hr'
    go_enter Try.func19, Try.ntmps19
    go_wp2_with fail
    rw [← Ha.out]
    refine (rright_any _ ks u x _ hKa).mono ?_
    rintro e w1 ⟨rfl, hg1⟩
    rw [hr']
    go_wp2
    go_ret2
    rw [hE.out]
    exact ⟨_, _, rfl, ⟨rfl, rfl⟩, grown_up hga hg1⟩

end Go.Proofs.Ytiledkdoabdnnaa
