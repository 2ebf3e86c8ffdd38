/- The walk of the law TimersOrder. Conditions: those that the theorem states. -/
import Derived.Test.YtpoahegccjgnjaaYLaw
namespace Go.Proofs.Ytpoahegccjgnjaa.timersOrder
open Go.RowKit
set_option linter.unusedVariables false

set_option maxRecDepth 100000 in
set_option maxHeartbeats 6400000 in
theorem walk (a : Option Addr) (len cap : Nat) (L0 : List Tp) (now : Int) (w : World) (hB : Sts Tp.cells 3 (fun o _ => o.ok) w.heap.size w (.slice a len cap) L0) : Calls Try.prog 5 #[.slice a len cap, .int .i64 now] w fun e w' => e = .returned (.bool true) ∧ w.grownBy w' none := by
  obtain ⟨L, hL3, hmin, hLc, hlc, hcm, hscr⟩ := scr_of hB
  have HSC := hide hscr
  clear hB hscr
  have HV := hide (tlives_any w)
  have HE := hide (fun W => tearly_any a len cap W hlc hcm)
  rw [hmin] at HE
  clear hmin hlc hcm hLc
  go_enter Try.func5, Try.ntmps5
  go_upto_region 3 with (go_at_call 7; refine HV.out.mono ?_; clear HV; rintro e w1 ⟨rfl, k1⟩)
  have HN1 := fun W => hide (tnew_any W)
  go_upto_region 5 with (first
    | (go_at_call 8; refine (HE.out _).mono ?_; clear HE; rintro e w2 ⟨rfl, e2⟩; subst e2; have HA := HN1 w2)
    | (go_at_call 9; refine HA.out.mono ?_; clear HA; rintro e w3 ⟨pa, Fa, rfl, ha3, fa, k3⟩; have HB := HN1 w3; clear HN1)
    | (go_at_call 9; refine HB.out.mono ?_; clear HB; rintro e w4 ⟨pb, Fb, rfl, hb4, fb, k4⟩))
  have hsz3 := k3.size
  have T4 : Two w w4 pa pb Fa Fb [] [] := ⟨ha3.kept k4 (fun _ _ h => h), hb4, fun k ha hb => by have := fb k hb; have := ha3.lt k ha; omega, fun k hk => Nat.le_trans k1.size (fa k hk), fun k hk => Nat.le_trans (k1.then k3).size (fb k hk), (k1.then k3).then k4⟩
  clear ha3 hb4 fa fb k3 k4 k1 hsz3
  go_wp2
  go_loopw [7] (fun t wr => ∃ i : Nat, i ≤ L.length ∧ t = .int .i64 i ∧ Hid (Dst L i) ∧ Two w wr pa pb Fa Fb [] []) (fun t _ => L.length - (intOf t).toNat)
  case atStart => exact ⟨0, Nat.zero_le _, rfl, hide (fun x y _ _ _ h => absurd h (by omega)), T4⟩
  case round =>
    obtain ⟨i, hi, rfl, hD, hT⟩ := hrel
    clear T4
    by_cases hlt : i < L.length
    · have hii : (i : Int) < (L.length : Int) := by omega
      go_wp2
      go_loopw [8] (fun t wx => ∃ k : Nat, k ≤ i ∧ t = .int .i64 k ∧ Hid (∀ x (hx : x < L.length), x < k → L[x].id ≠ (L[i]'hlt).id) ∧ Two w wx pa pb Fa Fb [] []) (fun t _ => i - (intOf t).toNat)
      case atStart => exact ⟨0, Nat.zero_le _, rfl, hide (fun x _ hx => absurd hx (by omega)), hT⟩
      case round =>
        obtain ⟨k, hk, rfl, hE, hX⟩ := hrel
        by_cases hki : k < i
        · have hkL : k < L.length := by omega
          have hkk : (k : Int) < (i : Int) := by omega
          have hkl : (k : Int) < (L.length : Int) := by omega
          obtain ⟨b, off, rfl, _, _, c1, _⟩ := HSC.out k hkL
          obtain ⟨b', off', e', _, _, c2, _⟩ := HSC.out i hlt
          cases e'
          have d1 := hX.kp.cell c1 (fun h => h)
          have d2 := hX.kp.cell c2 (fun h => h)
          obtain ⟨x, HX⟩ : ∃ x, Hid (L[k].id = x) := ⟨_, hide rfl⟩
          obtain ⟨y, HY⟩ : ∃ y, Hid (L[i].id = y) := ⟨_, hide rfl⟩
          rw [HX.out] at d1
          rw [HY.out] at d2
          by_cases hxy : x = y
          · have hbe : (x == y) = true := by simpa using hxy
            clear c1 c2 hxy
            go_upto_region 11 with fail
            go_quiet (fail)
            go_wp2
            go_ret
            exact ⟨rfl, (hX.kept (Kp.drewN none' _ _)).kp.grown⟩
          · have hbe : (x == y) = false := by simpa using hxy
            clear c1 c2
            go_upto_region 11 with fail
            go_quiet (fail)
            go_wp2
            go_roundw
            case rel => exact ⟨k + 1, by omega, by go_num, hide (fun z hzl hz => by
              by_cases ez : z = k
              · subst ez
                rw [HX.out, HY.out]
                exact hxy
              · exact hE.out z hzl (by omega)), hX.kept (Kp.drewN none' _ _)⟩
            case measure => simp [intOf]; omega
        · obtain rfl : k = i := by omega
          go_wp2
          go_roundw
          case rel => exact ⟨k + 1, by omega, by go_num, hide (fun x y hx hy hxy hyk => by
            by_cases ey : y = k
            · subst ey
              exact hE.out x hx hxy
            · exact hD.out x y hx hy hxy (by omega)), hX⟩
          case measure => simp [intOf]; omega
    · obtain rfl : i = L.length := by omega
      have hN := hD.out.nodup
      have hNr : (L.reverse.map Tp.id).Nodup := ((List.reverse_perm L).map _).nodup_iff.2 hN
      have HN := hide hN
      have HNR := hide hNr
      clear hN hNr hD
      go_wp2
      go_loopw [9] (fun t wx => ∃ (i : Nat) (Fa Fb : Nat → Prop) (La Lb : List (Int × Int)), i ≤ L.length ∧ t = .int .i64 i ∧ Two w wx pa pb Fa Fb La Lb ∧ La.Perm ((L.take i).map Tp.pr) ∧ Lb.Perm ((L.reverse.take i).map Tp.pr)) (fun t _ => L.length - (intOf t).toNat)
      case atStart => exact ⟨0, Fa, Fb, [], [], Nat.zero_le _, rfl, hT, by simp, by simp⟩
      case round =>
        obtain ⟨i, Fa, Fb, La, Lb, hi, rfl, hX, hpa, hpb⟩ := hrel
        clear hT
        by_cases hlt : i < L.length
        · have hii : (i : Int) < (L.length : Int) := by omega
          obtain ⟨b, off, rfl, hbw, c0, c1, c2⟩ := HSC.out i hlt
          have hj : L.length - 1 - i < L.length := by omega
          obtain ⟨b', off', e', _, f0, f1, f2⟩ := HSC.out (L.length - 1 - i) hj
          cases e'
          have hlr : i < L.reverse.length := by rw [List.length_reverse]; exact hlt
          have er : L.reverse[i]'hlr = L[L.length - 1 - i] := by rw [List.getElem_reverse]
          have hsa := set_step HN.out hlt hpa
          have hsb := set_step HNR.out hlr hpb
          rw [er] at hsb
          have hla : La.length = i := by rw [hpa.length_eq, List.length_map, List.length_take]; omega
          have hlb : Lb.length = i := by rw [hpb.length_eq, List.length_map, List.length_take]; omega
          have HSA := hide hsa
          have HSB := hide hsb
          clear hsa hsb hpa hpb er
          have d1 := hX.kp.cell c1 (fun h => h)
          have d2 := hX.kp.cell c2 (fun h => h)
          obtain ⟨jj, HJ⟩ : ∃ jj, Hid (L.length - 1 - i = jj) := ⟨_, rfl⟩
          have hjz : (L.length : Int) - 1 - (i : Int) = (jj : Int) := by have := HJ.out; omega
          have hjl : (jj : Int) < (L.length : Int) := by have := HJ.out; omega
          have HF : Hid (∀ W, Kp none' w W → W.cell? ⟨b, off + jj * 3, none⟩ = some (.int .i64 (L[L.length - 1 - i]).k) ∧ W.cell? ⟨b, off + jj * 3 + 1, none⟩ = some (.int .i64 (L[L.length - 1 - i]).id) ∧ W.cell? ⟨b, off + jj * 3 + 2, none⟩ = some (.int .i64 (L[L.length - 1 - i]).t)) := fun W hW => by
            rw [← HJ.out]
            exact ⟨hW.cell f0 (fun h => h), hW.cell f1 (fun h => h), hW.cell f2 (fun h => h)⟩
          clear f0 f1 f2 c0 c1 c2
          obtain ⟨x, HX⟩ : ∃ x, Hid (L[i] = x) := ⟨_, hide rfl⟩
          obtain ⟨y, HY⟩ : ∃ y, Hid (L[L.length - 1 - i] = y) := ⟨_, hide rfl⟩
          rw [HX.out] at d1 d2 HSA
          rw [HY.out] at HF HSB
          have HS1 := hide (tset_any pa Fa La x.id x.t wr.drew (hX.kept (Kp.drew _ _)).ta (by omega))
          have HS0 := hide (tset_any pa Fa La x.id x.t wr hX.ta (by omega))
          go_upto_region 16 with fail
          go_region_with (first
            | (go_at_call 11; refine HS1.out.mono ?_; rintro e w5 ⟨rfl, hs5⟩; obtain ⟨Fa', hT5⟩ := (hX.kept (Kp.drew _ _)).setA hs5)
            | (go_at_call 11; refine HS0.out.mono ?_; rintro e w5 ⟨rfl, hs5⟩; obtain ⟨Fa', hT5⟩ := hX.setA hs5))
          all_goals obtain ⟨g0, g1, g2⟩ := HF.out w5 hT5.kp
          all_goals (go_upto_region 18 with fail)
          all_goals obtain ⟨W6, e6, k6, p0, p1, p2⟩ := new_step w5 y
          all_goals rw [e6]
          all_goals have hT6 := hT5.kept k6
          all_goals have HS2 := hide (tset_any pb Fb Lb y.id y.t W6 hT6.tb (by omega))
          all_goals clear hT5 hX g0 g1 g2
          all_goals go_wp2_with (go_at_call 11; refine HS2.out.mono ?_; rintro e w7 ⟨rfl, hs7⟩; obtain ⟨Fb', hT7⟩ := hT6.setB hs7)
          all_goals go_roundw
          all_goals first
            | exact ⟨i + 1, Fa', Fb', _, _, by omega, by go_num, hT7, HSA.out, HSB.out⟩
            | (simp [intOf]; omega)
        · obtain rfl : i = L.length := by omega
          rw [List.take_length] at hpa
          rw [← List.length_reverse, List.take_length] at hpb
          have hpab : Lb.Perm La := hpb.trans (((List.reverse_perm L).map _).trans hpa.symm)
          have hla : La.length = L.length := by rw [hpa.length_eq, List.length_map]
          have hsa := hX.ta.sorted
          have hsb := hX.tb.sorted
          have HP := hide hpab
          have HSA := hide hsa
          have HSB := hide hsb
          have HLA := hide hla
          clear hpa hpb hpab hsa hsb hla
          go_wp2
          go_loopw [11, 12] (fun lt t wx => ∃ (i : Nat) (last : Int) (A R : List (Int × Int)), i ≤ L.length ∧ t = .int .i64 i ∧ lt = .int .i64 last ∧ Hid (La = A ++ R) ∧ Hid (∀ q ∈ A, q.1 ≤ now) ∧ R.length + i ≤ L.length ∧ Hid (i = 0 ∨ (R ≠ [] ∧ ∀ q ∈ R, last < q.1)) ∧ Hid (i = 0 → R = La) ∧ Two w wx pa pb Fa Fb R Lb) (fun _ t _ => L.length - (intOf t).toNat)
          case atStart => exact ⟨0, 0, [], La, Nat.zero_le _, rfl, rfl, hide (by simp), hide (by simp), by have := HLA.out; omega, hide (.inl rfl), hide (fun _ => rfl), hX⟩
          case round =>
            obtain ⟨i, last, A, R, hi, rfl, rfl, hLa, hA, hRl, hZ, hS, hT⟩ := hrel
            clear hX
            have hsr := hide hT.ta.sorted
            by_cases hlt : i < L.length
            · have hii : (i : Int) < (L.length : Int) := by omega
              cases R with
              | nil =>
                exfalso
                have h1 := HLA.out
                rcases hZ.out with h0 | h0
                · rw [← hS.out h0] at h1
                  simp at h1
                  omega
                · exact h0.1 rfl
              | cons q T =>
                have HNX := hide (tnext_some pa Fa q T _ hT.ta)
                have hlast : ¬ (0 : Int) < (i : Int) ∨ ((0 : Int) < (i : Int) ∧ ¬ q.1 < last) := by
                  rcases hZ.out with h0 | h0
                  · left; omega
                  · by_cases hi0 : i = 0
                    · left; omega
                    · right
                      have := h0.2 q (by simp)
                      omega
                have hq1 := hsr.out
                rw [List.pairwise_cons] at hq1
                have HQ := hide hq1
                clear hq1
                obtain ⟨qt, HQT⟩ : ∃ qt, Hid (q.1 = qt) := ⟨_, rfl⟩
                obtain ⟨qi, HQI⟩ : ∃ qi, Hid (q.2 = qi) := ⟨_, rfl⟩
                rw [HQT.out, HQI.out] at HNX
                rw [HQT.out] at hlast
                by_cases hnow : now < qt
                · rcases hlast with hl | ⟨hl, hl2⟩
                  all_goals (go_upto_region 27 with (go_at_call 18; refine HNX.out.mono ?_; clear HNX; rintro e w7 ⟨rfl, d7, e7⟩; have hT7 := hT.kept (e7 ▸ Kp.drewN none' _ d7); clear e7))
                  · have HM := hide (cnt_rest HP.out HSB.out (now := now) (R := q :: T) hLa.out hA.out (fun r hr => by
                      rcases List.mem_cons.1 hr with rfl | hr
                      · rw [HQT.out]; exact hnow
                      · have := HQ.out.1 r hr
                        have := HQT.out
                        unfold Ap at *
                        omega))
                    have HDU := hide (tdue_any pb Fb Lb now _ hT7.tb)
                    have HSU := hide (due_len now Lb)
                    obtain ⟨m, Hm⟩ : ∃ m, Hid ((restL now Lb).length = m) := ⟨_, rfl⟩
                    obtain ⟨dl, Hd⟩ : ∃ dl, Hid ((dueL now Lb).length = dl) := ⟨_, rfl⟩
                    rw [Hm.out, Hd.out] at HSU
                    rw [Hm.out] at HM
                    have hsum : ((dl : Int) + (m : Int) == (L.length : Int)) = true := by
                      have h1 := HSU.out
                      have h2 := HLA.out
                      have h3 := HP.out.length_eq
                      simp
                      omega
                    have hmm : ((m : Int) == (m : Int)) = true := by simp
                    have hLB : Lb.length ≤ 300 := by have h2 := HLA.out; have h3 := HP.out.length_eq; omega
                    have hdl2 : dl ≤ 300 := by have := HSU.out; omega
                    have hml2 : m ≤ 300 := by have := HSU.out; omega
                    clear hLB
                    go_wp2_with (first
                      | (go_at_call 16; refine HDU.out.mono ?_; clear HDU; rintro e w8 ⟨u, rfl, o8, t8, k8⟩; obtain ⟨au, cu, eu, -⟩ := o8.open; rw [Hd.out] at eu; subst eu; have HT8 := hide (hT7.swap.turnA t8 k8); have HLB := hide (tlen_any pb Fb (restL now Lb) w8 t8); rw [Hm.out] at HLB; clear o8 t8 k8)
                      | (go_at_call 19; refine HLB.out.mono ?_; clear HLB; rintro e w9 ⟨rfl, e9⟩; subst e9; have HLA2 := hide (tlen_any pa Fa (q :: T) _ HT8.out.tb); rw [HM.out] at HLA2)
                      | (go_at_call 19; refine HLA2.out.mono ?_; clear HLA2; rintro e w10 ⟨rfl, e10⟩; subst e10))
                    go_ret
                    exact ⟨rfl, HT8.out.kp.grown⟩
                  · have HM := hide (cnt_rest HP.out HSB.out (now := now) (R := q :: T) hLa.out hA.out (fun r hr => by
                      rcases List.mem_cons.1 hr with rfl | hr
                      · rw [HQT.out]; exact hnow
                      · have := HQ.out.1 r hr
                        have := HQT.out
                        unfold Ap at *
                        omega))
                    have HDU := hide (tdue_any pb Fb Lb now _ hT7.tb)
                    have HSU := hide (due_len now Lb)
                    obtain ⟨m, Hm⟩ : ∃ m, Hid ((restL now Lb).length = m) := ⟨_, rfl⟩
                    obtain ⟨dl, Hd⟩ : ∃ dl, Hid ((dueL now Lb).length = dl) := ⟨_, rfl⟩
                    rw [Hm.out, Hd.out] at HSU
                    rw [Hm.out] at HM
                    have hsum : ((dl : Int) + (m : Int) == (L.length : Int)) = true := by
                      have h1 := HSU.out
                      have h2 := HLA.out
                      have h3 := HP.out.length_eq
                      simp
                      omega
                    have hmm : ((m : Int) == (m : Int)) = true := by simp
                    have hLB : Lb.length ≤ 300 := by have h2 := HLA.out; have h3 := HP.out.length_eq; omega
                    have hdl2 : dl ≤ 300 := by have := HSU.out; omega
                    have hml2 : m ≤ 300 := by have := HSU.out; omega
                    clear hLB
                    go_wp2_with (first
                      | (go_at_call 16; refine HDU.out.mono ?_; clear HDU; rintro e w8 ⟨u, rfl, o8, t8, k8⟩; obtain ⟨au, cu, eu, -⟩ := o8.open; rw [Hd.out] at eu; subst eu; have HT8 := hide (hT7.swap.turnA t8 k8); have HLB := hide (tlen_any pb Fb (restL now Lb) w8 t8); rw [Hm.out] at HLB; clear o8 t8 k8)
                      | (go_at_call 19; refine HLB.out.mono ?_; clear HLB; rintro e w9 ⟨rfl, e9⟩; subst e9; have HLA2 := hide (tlen_any pa Fa (q :: T) _ HT8.out.tb); rw [HM.out] at HLA2)
                      | (go_at_call 19; refine HLA2.out.mono ?_; clear HLA2; rintro e w10 ⟨rfl, e10⟩; subst e10))
                    go_ret
                    exact ⟨rfl, HT8.out.kp.grown⟩
                · have hnow' : qt ≤ now := by omega
                  have HDA := hide (fun W (h : Tim W pa Fa (q :: T)) => tdue_any pa Fa (q :: T) qt W h)
                  have hpos : 0 < (dueL qt (q :: T)).length := by rw [← HQT.out]; exact due_pos
                  obtain ⟨A2, hA2, hA3⟩ := due_split (L := q :: T) hnow'
                  have hsum4 := due_len qt (q :: T)
                  have hrs := rest_above (now := qt) hsr.out
                  obtain ⟨R2, HR2⟩ : ∃ R2, Hid (restL qt (q :: T) = R2) := ⟨_, rfl⟩
                  obtain ⟨d4, HD4⟩ : ∃ d4, Hid ((dueL qt (q :: T)).length = d4) := ⟨_, rfl⟩
                  rw [HD4.out] at hpos hsum4
                  rw [HR2.out] at hsum4 hA2 hrs HDA
                  have hR2l : R2.length + (i + 1) ≤ L.length := by omega
                  have hLa2 : La = (A ++ A2) ++ R2 := by rw [hLa.out, hA2, List.append_assoc]
                  have hAA : ∀ r ∈ A ++ A2, r.1 ≤ now := fun r hr => by
                    rcases List.mem_append.1 hr with hr | hr
                    · exact hA.out r hr
                    · exact hA3 r hr
                  have HLa2 := hide hLa2
                  have HAA := hide hAA
                  have HRS := hide hrs
                  have hd0 : ((d4 : Int) == 0) = false := beq_eq_false_iff_ne.2 (by omega)
                  clear hLa2 hAA hA2 hA3 hrs hsum4
                  by_cases hR0 : R2 = []
                  · subst hR0
                    rcases hlast with hl | ⟨hl, hl2⟩
                    · go_upto_region 31 with (first
                        | (go_at_call 18; refine HNX.out.mono ?_; clear HNX; rintro e w7 ⟨rfl, d7, e7⟩; have hT7 := hT.kept (e7 ▸ Kp.drewN none' _ d7); clear e7; have HDA2 := hide (HDA.out w7 hT7.ta))
                        | (go_at_call 16; refine HDA2.out.mono ?_; clear HDA2 HDA; rintro e w8 ⟨u1, rfl, o8, t8, k8⟩; obtain ⟨au1, cu1, eu1, -⟩ := o8.open; rw [HD4.out] at eu1; subst eu1; have hT8 := hT7.turnA t8 k8; have HLN := hide (tlen_any pa Fa _ w8 t8); clear o8 t8 k8)
                        | (go_at_call 19; refine HLN.out.mono ?_; clear HLN; rintro e w9 ⟨rfl, e9⟩; subst e9))
                      have HM := hide (cnt_rest HP.out HSB.out (now := now) HLa2.out HAA.out (by simp))
                      have HDU := hide (tdue_any pb Fb Lb now _ hT8.tb)
                      have HSU := hide (due_len now Lb)
                      obtain ⟨m, Hm⟩ : ∃ m, Hid ((restL now Lb).length = m) := ⟨_, rfl⟩
                      obtain ⟨dl, Hd⟩ : ∃ dl, Hid ((dueL now Lb).length = dl) := ⟨_, rfl⟩
                      rw [Hm.out, Hd.out] at HSU
                      rw [Hm.out] at HM
                      have hsum : ((dl : Int) + (m : Int) == (L.length : Int)) = true := by
                        have h1 := HSU.out
                        have h2 := HLA.out
                        have h3 := HP.out.length_eq
                        simp
                        omega
                      have hmm : ((m : Int) == (m : Int)) = true := by simp
                      have hLB : Lb.length ≤ 300 := by have h2 := HLA.out; have h3 := HP.out.length_eq; omega
                      have hdl2 : dl ≤ 300 := by have := HSU.out; omega
                      have hml2 : m ≤ 300 := by have := HSU.out; omega
                      clear hLB
                      go_wp2_with (first
                        | (go_at_call 16; refine HDU.out.mono ?_; clear HDU; rintro e w8 ⟨u, rfl, o8, t8, k8⟩; obtain ⟨au, cu, eu, -⟩ := o8.open; rw [Hd.out] at eu; subst eu; have HT8 := hide (hT8.swap.turnA t8 k8); have HLB := hide (tlen_any pb Fb (restL now Lb) w8 t8); rw [Hm.out] at HLB; clear o8 t8 k8)
                        | (go_at_call 19; refine HLB.out.mono ?_; clear HLB; rintro e w9 ⟨rfl, e9⟩; subst e9; have HLA2 := hide (tlen_any pa Fa [] _ HT8.out.tb); rw [HM.out] at HLA2)
                        | (go_at_call 19; refine HLA2.out.mono ?_; clear HLA2; rintro e w10 ⟨rfl, e10⟩; subst e10))
                      go_ret
                      exact ⟨rfl, HT8.out.kp.grown⟩
                    · go_upto_region 31 with (first
                        | (go_at_call 18; refine HNX.out.mono ?_; clear HNX; rintro e w7 ⟨rfl, d7, e7⟩; have hT7 := hT.kept (e7 ▸ Kp.drewN none' _ d7); clear e7; have HDA2 := hide (HDA.out w7 hT7.ta))
                        | (go_at_call 16; refine HDA2.out.mono ?_; clear HDA2 HDA; rintro e w8 ⟨u1, rfl, o8, t8, k8⟩; obtain ⟨au1, cu1, eu1, -⟩ := o8.open; rw [HD4.out] at eu1; subst eu1; have hT8 := hT7.turnA t8 k8; have HLN := hide (tlen_any pa Fa _ w8 t8); clear o8 t8 k8)
                        | (go_at_call 19; refine HLN.out.mono ?_; clear HLN; rintro e w9 ⟨rfl, e9⟩; subst e9))
                      have HM := hide (cnt_rest HP.out HSB.out (now := now) HLa2.out HAA.out (by simp))
                      have HDU := hide (tdue_any pb Fb Lb now _ hT8.tb)
                      have HSU := hide (due_len now Lb)
                      obtain ⟨m, Hm⟩ : ∃ m, Hid ((restL now Lb).length = m) := ⟨_, rfl⟩
                      obtain ⟨dl, Hd⟩ : ∃ dl, Hid ((dueL now Lb).length = dl) := ⟨_, rfl⟩
                      rw [Hm.out, Hd.out] at HSU
                      rw [Hm.out] at HM
                      have hsum : ((dl : Int) + (m : Int) == (L.length : Int)) = true := by
                        have h1 := HSU.out
                        have h2 := HLA.out
                        have h3 := HP.out.length_eq
                        simp
                        omega
                      have hmm : ((m : Int) == (m : Int)) = true := by simp
                      have hLB : Lb.length ≤ 300 := by have h2 := HLA.out; have h3 := HP.out.length_eq; omega
                      have hdl2 : dl ≤ 300 := by have := HSU.out; omega
                      have hml2 : m ≤ 300 := by have := HSU.out; omega
                      clear hLB
                      go_wp2_with (first
                        | (go_at_call 16; refine HDU.out.mono ?_; clear HDU; rintro e w8 ⟨u, rfl, o8, t8, k8⟩; obtain ⟨au, cu, eu, -⟩ := o8.open; rw [Hd.out] at eu; subst eu; have HT8 := hide (hT8.swap.turnA t8 k8); have HLB := hide (tlen_any pb Fb (restL now Lb) w8 t8); rw [Hm.out] at HLB; clear o8 t8 k8)
                        | (go_at_call 19; refine HLB.out.mono ?_; clear HLB; rintro e w9 ⟨rfl, e9⟩; subst e9; have HLA2 := hide (tlen_any pa Fa [] _ HT8.out.tb); rw [HM.out] at HLA2)
                        | (go_at_call 19; refine HLA2.out.mono ?_; clear HLA2; rintro e w10 ⟨rfl, e10⟩; subst e10))
                      go_ret
                      exact ⟨rfl, HT8.out.kp.grown⟩
                  · have hR2n : ((R2.length : Int) == 0) = false := beq_eq_false_iff_ne.2 (by
                      have : R2.length ≠ 0 := fun e => hR0 (List.eq_nil_of_length_eq_zero e)
                      omega)
                    rcases hlast with hl | ⟨hl, hl2⟩
                    · go_wp2_with (first
                        | (go_at_call 18; refine HNX.out.mono ?_; clear HNX; rintro e w7 ⟨rfl, d7, e7⟩; have hT7 := hT.kept (e7 ▸ Kp.drewN none' _ d7); clear e7; have HDA2 := hide (HDA.out w7 hT7.ta))
                        | (go_at_call 16; refine HDA2.out.mono ?_; clear HDA2 HDA; rintro e w8 ⟨u1, rfl, o8, t8, k8⟩; obtain ⟨au1, cu1, eu1, -⟩ := o8.open; rw [HD4.out] at eu1; subst eu1; have hT8 := hT7.turnA t8 k8; have HLN := hide (tlen_any pa Fa _ w8 t8); clear o8 t8 k8)
                        | (go_at_call 19; refine HLN.out.mono ?_; clear HLN; rintro e w9 ⟨rfl, e9⟩; subst e9))
                      go_roundw
                      case rel => exact ⟨i + 1, qt, A ++ A2, R2, by omega, by go_num, rfl, HLa2, HAA, hR2l, hide (.inr ⟨hR0, HRS.out⟩), hide (fun h => by omega), hT8⟩
                      case measure => simp [intOf]; omega
                    · go_wp2_with (first
                        | (go_at_call 18; refine HNX.out.mono ?_; clear HNX; rintro e w7 ⟨rfl, d7, e7⟩; have hT7 := hT.kept (e7 ▸ Kp.drewN none' _ d7); clear e7; have HDA2 := hide (HDA.out w7 hT7.ta))
                        | (go_at_call 16; refine HDA2.out.mono ?_; clear HDA2 HDA; rintro e w8 ⟨u1, rfl, o8, t8, k8⟩; obtain ⟨au1, cu1, eu1, -⟩ := o8.open; rw [HD4.out] at eu1; subst eu1; have hT8 := hT7.turnA t8 k8; have HLN := hide (tlen_any pa Fa _ w8 t8); clear o8 t8 k8)
                        | (go_at_call 19; refine HLN.out.mono ?_; clear HLN; rintro e w9 ⟨rfl, e9⟩; subst e9))
                      go_roundw
                      case rel => exact ⟨i + 1, qt, A ++ A2, R2, by omega, by go_num, rfl, HLa2, HAA, hR2l, hide (.inr ⟨hR0, HRS.out⟩), hide (fun h => by omega), hT8⟩
                      case measure => simp [intOf]; omega
            · obtain rfl : i = L.length := by omega
              have hR0 : R = [] := by
                rcases hZ.out with h0 | h0
                · rw [hS.out h0]
                  have := HLA.out
                  exact List.eq_nil_of_length_eq_zero (by omega)
                · exact absurd (List.eq_nil_of_length_eq_zero (by omega)) h0.1
              subst hR0
              have HM := hide (cnt_rest HP.out HSB.out (now := now) hLa.out hA.out (by simp))
              have HDU := hide (tdue_any pb Fb Lb now _ hT.tb)
              have HSU := hide (due_len now Lb)
              obtain ⟨m, Hm⟩ : ∃ m, Hid ((restL now Lb).length = m) := ⟨_, rfl⟩
              obtain ⟨dl, Hd⟩ : ∃ dl, Hid ((dueL now Lb).length = dl) := ⟨_, rfl⟩
              rw [Hm.out, Hd.out] at HSU
              rw [Hm.out] at HM
              have hsum : ((dl : Int) + (m : Int) == (L.length : Int)) = true := by
                have h1 := HSU.out
                have h2 := HLA.out
                have h3 := HP.out.length_eq
                simp
                omega
              have hmm : ((m : Int) == (m : Int)) = true := by simp
              have hLB : Lb.length ≤ 300 := by have h2 := HLA.out; have h3 := HP.out.length_eq; omega
              have hdl2 : dl ≤ 300 := by have := HSU.out; omega
              have hml2 : m ≤ 300 := by have := HSU.out; omega
              clear hLB
              go_wp2_with (first
                | (go_at_call 16; refine HDU.out.mono ?_; clear HDU; rintro e w8 ⟨u, rfl, o8, t8, k8⟩; obtain ⟨au, cu, eu, -⟩ := o8.open; rw [Hd.out] at eu; subst eu; have HT8 := hide (hT.swap.turnA t8 k8); have HLB := hide (tlen_any pb Fb (restL now Lb) w8 t8); rw [Hm.out] at HLB; clear o8 t8 k8)
                | (go_at_call 19; refine HLB.out.mono ?_; clear HLB; rintro e w9 ⟨rfl, e9⟩; subst e9; have HLA2 := hide (tlen_any pa Fa [] _ HT8.out.tb); rw [HM.out] at HLA2)
                | (go_at_call 19; refine HLA2.out.mono ?_; clear HLA2; rintro e w10 ⟨rfl, e10⟩; subst e10))
              go_ret
              exact ⟨rfl, HT8.out.kp.grown⟩

end Go.Proofs.Ytpoahegccjgnjaa.timersOrder
