/- Contracts, over the turned program: what the document's Write answers. Conditions: those that each theorem states. -/
import Derived.Test.YtponhibiomcidaaDoorNRefR
import Derived.Test.YtponhibiomcidaaDoorNParts
namespace Go.Proofs.YtponhibiomcidaaDoor
open Go Go.RowKit
set_option linter.unusedVariables false

theorem catN (a b : List UInt8) : (⟨a.toArray⟩ : ByteArray) ++ ⟨b.toArray⟩ = ⟨(a ++ b).toArray⟩ := by
  apply ByteArray.ext
  rw [ByteArray.data_append]
  simp
theorem size_lt (l : List Pr) (h : ∀ p ∈ l, p.k.size ≤ 32 ∧ p.v.size ≤ 40) : (l.map Pr.size).sum ≤ 74 * l.length := by
  induction l with
  | nil => simp
  | cons p l ih =>
    have h1 := h p List.mem_cons_self
    have h2 := ih (fun q hq => h q (List.mem_cons_of_mem _ hq))
    simp only [List.map_cons, List.sum_cons, List.length_cons]
    rw [show Pr.size p = 2 + p.k.size + p.v.size from rfl]
    omega
theorem kSize_lt (l : List ByteArray) (h : ∀ p ∈ l, p.size ≤ 32) : (l.map kSize).sum ≤ 35 * l.length := by
  induction l with
  | nil => simp
  | cons p l ih =>
    have h1 := h p List.mem_cons_self
    have h2 := ih (fun q hq => h q (List.mem_cons_of_mem _ hq))
    simp only [List.map_cons, List.sum_cons, List.length_cons]
    rw [show kSize p = 3 + p.size from rfl]
    omega
theorem right_size {n : Nd} (h : n.right = true) (hp : n.ps.length ≤ 1099511627776) (hk : n.ks.length ≤ 1099511627776) : wrap64 (n.size : Int) = (n.size : Int) := by
  have : n.size ≤ 4 + 74 * 1099511627776 := by
    unfold Nd.size
    cases e : n.leaf with
    | true =>
      obtain ⟨h1, _, _, h4⟩ := right_leaf h e
      have := size_lt n.ps (fun p hp => ⟨(ordN_mem h4 p.k (List.mem_map_of_mem hp)).2, h1 p hp⟩)
      simp
      omega
    | false =>
      obtain ⟨_, _, _, h4⟩ := right_inner h e
      have := kSize_lt n.ks (fun p hp => (ordN_mem h4 p hp).2)
      simp
      omega
  unfold wrap64
  omega

set_option maxRecDepth 100000 in
set_option maxHeartbeats 1000000 in
theorem rwrite9_bad (x : Value) (n : Nd) (B : Nat) (w : World) (hN : Nv B w x n) (hB : B ≤ w.heap.size) (hp : n.ps.length ≤ 1099511627776) (hk : n.ks.length ≤ 1099511627776) (hr : n.writeE ≠ 0) :
    Calls Tryd.prog 20 #[x] w fun e w' => e = .returned (.tuple #[.string ⟨#[]⟩, .int .i64 n.writeE]) ∧ Kp none' w w' := by
  have hN' := hN
  obtain ⟨⟨pv, kv, dv, rfl, hP, hS, hD⟩, hwf⟩ := hN'
  have hK0 : Kp none' w (w.alloc (.cells #[.bool n.leaf, pv, kv, dv] 27)) := Kp.alloc _ _ _
  have hN0 := hN.keptN hK0
  have hs0 : B ≤ (w.alloc (.cells #[.bool n.leaf, pv, kv, dv] 27)).heap.size := Nat.le_trans hB hK0.size
  cases h : n.right with
  | false =>
    have hE : n.writeE = 4 := by unfold Nd.writeE; simp [h]
    rw [hE]
    go_enter Tryd.func20, Tryd.ntmps20
    go_wp2_with (go_at_call 48; refine (rright_any _ n B _ hN0 hs0 hp).mono ?_; rintro e w' ⟨rfl, hK'⟩; rw [h])
    go_ret2
    exact ⟨rfl, hK0.thenN hK'⟩
  | true =>
    have hz : 256 < n.size := by unfold Nd.writeE at hr; simp [h] at hr; omega
    have hE : n.writeE = 3 := by unfold Nd.writeE; simp [h, hz]
    have hW := right_size h hp hk
    have hz' : 256 < (n.size : Int) := by omega
    have hb := Nb.new w n.leaf pv kv dv
    rw [hE]
    go_enter Tryd.func20, Tryd.ntmps20
    go_upto_region 3 with (first
      | (go_at_call 48; refine (rright_any _ n B _ hN0 hs0 hp).mono ?_; rintro e w' ⟨rfl, hK'⟩; rw [h])
      | fail)
    have hb' := hb.kept hK' (fun h => h)
    have hN1 := hN0.keptN hK'
    have d0 := hb'.c0
    have d1 := hb'.c1
    have d2 := hb'.c2
    have d3 := hb'.c3
    go_wp2_with (go_at_call 49; refine (rsize9_any _ n B _ hN1).mono ?_; rintro e w2 ⟨rfl, hK2⟩; rw [hW])
    go_ret2
    exact ⟨rfl, hK0.thenN (hK'.thenN hK2)⟩

theorem sum_ge2 (l : List Pr) : 2 * l.length ≤ (l.map Pr.size).sum := by
  induction l with
  | nil => simp
  | cons p l ih =>
    simp only [List.map_cons, List.sum_cons, List.length_cons]
    rw [show Pr.size p = 2 + p.k.size + p.v.size from rfl]
    omega
theorem sumK_ge3 (l : List ByteArray) : 3 * l.length ≤ (l.map kSize).sum := by
  induction l with
  | nil => simp
  | cons p l ih =>
    simp only [List.map_cons, List.sum_cons, List.length_cons]
    rw [show kSize p = 3 + p.size from rfl]
    omega
theorem sum_takele (l : List Pr) (j : Nat) : ((l.take j).map Pr.size).sum ≤ (l.map Pr.size).sum := by
  conv => rhs; rw [← List.take_append_drop j l, List.map_append, List.sum_append]
  exact Nat.le_add_right _ _
theorem rnumc (c : Nat) (v : Int) (hv : v = (c : Int)) (w : World) (hn : c < 256) :
    Calls Tryd.prog 50 #[.int .u64 v, .int .i64 1] w fun y w' => y = .returned (.string ⟨#[UInt8.ofNat c]⟩) ∧ Kp none' w w' := by
  subst hv
  refine (rfnum1 c w hn).mono ?_
  rintro e w' ⟨rfl, hg⟩
  exact ⟨rfl, Kp.ofN hg _⟩

set_option maxRecDepth 100000 in
set_option maxHeartbeats 1000000 in
theorem rwrite9_leaf (x : Value) (n : Nd) (B : Nat) (w : World) (hN : Nv B w x n) (hB : B ≤ w.heap.size) (hp : n.ps.length ≤ 1099511627776) (hk : n.ks.length ≤ 1099511627776) (hl : n.leaf = true) (h : n.right = true) (hs : n.size ≤ 256) :
    Calls Tryd.prog 20 #[x] w fun e w' => e = .returned (.tuple #[.string ⟨n.page.toArray⟩, .int .i64 0]) ∧ Kp none' w w' := by
  obtain ⟨r1, r2, r3, r4⟩ := right_leaf h hl
  have HM : Hid (∀ p ∈ n.ps, p.k.size ≤ 32 ∧ p.v.size ≤ 40) := fun p hp => ⟨(ordN_mem r4 p.k (List.mem_map_of_mem hp)).2, r1 p hp⟩
  have HSZ : Hid (2 + (n.ps.map Pr.size).sum ≤ 256) := by show _ ≤ _; unfold Nd.size at hs; simpa [hl] using hs
  have hpl : n.ps.length ≤ 127 := by have := sum_ge2 n.ps; have := HSZ.out; omega
  have HBODY : Hid (n.body = [1, UInt8.ofNat n.ps.length] ++ encPs n.ps) := by show _ = _; unfold Nd.body; simp [hl]
  have HW0 : Hid (wrap64 (n.size : Int) = (n.size : Int)) := right_size h hp hk
  have hz' : ¬ 256 < (n.size : Int) := by omega
  clear r1 r2 r3 r4 hs
  obtain ⟨pg, HPG⟩ : ∃ pg, Hid (n.page = pg) := ⟨_, rfl⟩
  have HPG2 : Hid (pg = n.body ++ List.replicate (256 - n.body.length) 0) := by show _ = _; rw [← HPG.out]; rfl
  rw [HPG.out]
  have hN' := hN
  obtain ⟨⟨pv, kv, dv, rfl, hP, hS, hD⟩, hwf⟩ := hN'
  obtain ⟨n0, HN0⟩ : ∃ l, Hid (n.body = l) := ⟨_, rfl⟩
  obtain ⟨lf, ps, ks, kd⟩ := n
  dsimp only at *
  subst hl
  rw [HBODY.out] at HN0
  rw [HBODY.out] at HPG2
  obtain ⟨sz, HS⟩ : ∃ sz, Hid ((⟨true, ps, ks, kd⟩ : Nd).size = sz) := ⟨_, rfl⟩
  rw [HS.out] at hz'
  have HW : Hid (wrap64 (sz : Int) = (sz : Int)) := by have := HW0.out; rw [HS.out] at this; exact this
  clear HW0
  have hK0 : Kp none' w (w.alloc (.cells #[.bool true, pv, kv, dv] 27)) := Kp.alloc _ _ _
  have hN0 := hN.keptN hK0
  have hs0 : B ≤ (w.alloc (.cells #[.bool true, pv, kv, dv] 27)).heap.size := Nat.le_trans hB hK0.size
  have hb := Nb.new w true pv kv dv
  have HBL : Hid (∀ j, j ≤ ps.length → ([1, UInt8.ofNat ps.length] ++ encPs (ps.take j)).length ≤ 256) := by
    intro j hj
    rw [List.length_append, encPs_len _ (fun p hp => by have := HM.out p (List.mem_of_mem_take hp); omega)]
    have := sum_takele ps j
    have := HSZ.out
    simp only [List.length_cons, List.length_nil]
    omega
  have hP0 := hP.keptN hK0
  obtain ⟨a, c, rfl, hlc, hcm, _⟩ := hP
  unfold maxLen at hcm
  obtain ⟨i0, hi, hz0, hz1, hz2⟩ := info_parts Tryd.info5
  obtain ⟨T1, HT1⟩ : ∃ T : ByteArray, Hid (⟨#[UInt8.ofNat 1]⟩ = T) := ⟨_, rfl⟩
  obtain ⟨T2, HT2⟩ : ∃ T : ByteArray, Hid (⟨#[UInt8.ofNat ps.length]⟩ = T) := ⟨_, rfl⟩
  have hT12 : ¬ 9223372036854775807 < T1.size + T2.size := by rw [← HT1.out, ← HT2.out]; show ¬ _ < 1 + 1; omega
  have hn1 : Hid (∀ W : World, Calls Tryd.prog 50 #[.int .u64 1, .int .i64 1] W fun y w' => y = .returned (.string T1) ∧ Kp none' W w') := by rw [← HT1.out]; exact fun W => rnumc 1 1 rfl W (by omega)
  have hn2 : Hid (∀ (W : World) (v : Int), v = (ps.length : Int) → Calls Tryd.prog 50 #[.int .u64 v, .int .i64 1] W fun y w' => y = .returned (.string T2) ∧ Kp none' W w') := by rw [← HT2.out]; exact fun W v hv => rnumc ps.length _ hv W (by omega)
  have HT0 : Hid (T1 ++ T2 = ⟨([1, UInt8.ofNat ps.length] ++ encPs (ps.take 0)).toArray⟩) := by
    show _ = _
    rw [← HT1.out, ← HT2.out]
    rfl
  go_enter Tryd.func20, Tryd.ntmps20
  go_upto_region 3 with (first
    | (go_at_call 48; refine (rright_any _ ⟨true, ps, ks, kd⟩ B _ hN0 hs0 hp).mono ?_; rintro e w1 ⟨rfl, hK1⟩; rw [h])
    | fail)
  have hb1 := hb.kept hK1 (fun h => h)
  have hN1 := hN0.keptN hK1
  have d0 := hb1.c0
  have d1 := hb1.c1
  have d2 := hb1.c2
  have d3 := hb1.c3
  clear hN0 hs0
  go_upto_region 7 with (first
    | (go_at_call 49; refine (rsize9_any _ ⟨true, ps, ks, kd⟩ B _ hN1).mono ?_; rintro e w2 ⟨rfl, hK2⟩; rw [HS.out, HW.out]; have d0' := hK2.cell d0 (fun h => h))
    | fail)
  have hb2 := hb1.kept hK2 (fun h => h)
  have hc1 : ∀ W : World, Kp none' w2 W → W.cell? ⟨w.heap.size, 1, none⟩ = some (.slice a ps.length c) := fun W hk => (hb2.kept hk (fun h => h)).c1
  have dr : Kp none' w2 w2.drew := Kp.drew _ _
  have hl255 : (ps.length : Int) < 18446744073709551616 := by omega
  go_region_held_law (fun W => Kp none' w2 W) (first | assumption | exact dr) (first
    | (go_at_call 50; refine (hn2.out _ _ (by first | omega | (rw [IntKind.wrap_u64]; omega))).mono ?_; rintro e w4 ⟨rfl, hg4⟩; have S4 : Kp none' w2 w4 := Kp.thenN (by assumption) hg4)
    | (go_at_call 50; refine (hn1.out _).mono ?_; rintro e w3 ⟨rfl, hg3⟩; have S3 : Kp none' w2 w3 := Kp.thenN (by assumption) hg3))
  clear hl255
  have hKw : Kp none' w w4 := hK0.thenN (hK1.thenN (hK2.thenN S4))
  have hb4 := hb2.kept S4 (fun h => h)
  have HPA : Hid (Prs B w4 (.slice a ps.length c) ps) := hP0.keptN (hK1.thenN (hK2.thenN S4))
  have hwp := hwf.p
  clear hc1 dr hb hb1 hb2 d0 d1 d2 d3 d0' hP0 hN1 hN hS hD hwf h hK0 hK1 hK2 S3 S4 hg3 hg4 hz' HW hn1 hn2
  go_wp2
  go_loopw [4, 5] (fun b t wr => ∃ (k : Nat) (A : ByteArray), k ≤ ps.length ∧ t = .int .i64 k ∧ b = .string A ∧ Hid (A = ⟨([1, UInt8.ofNat ps.length] ++ encPs (ps.take k)).toArray⟩) ∧ Kp none' w4 wr) (fun _ t _ => ps.length - (intOf t).toNat)
  case atStart => exact ⟨0, _, Nat.zero_le _, rfl, rfl, HT0.out, Kp.refl _ _⟩
  case round =>
    obtain ⟨k, A, hk, rfl, rfl, HA, hKr⟩ := hrel
    have hbr := hb4.kept hKr (fun h => h)
    have hc1 := hbr.c1
    by_cases hlt : k < ps.length
    · obtain ⟨a', c', e, _, _, hx⟩ := HPA.out
      cases e
      obtain ⟨b, off, rfl, _, hck, hcv⟩ := hx k hlt
      have hck := hKr.cell hck (fun h => h)
      have hcv := hKr.cell hcv (fun h => h)
      clear hx
      have hk' : (k : Int) < (ps.length : Int) := by omega
      have Hm : Hid (ps[k].k.size ≤ 32 ∧ ps[k].v.size ≤ 40) := HM.out ps[k] (List.getElem_mem hlt)
      have HE : Hid (encPs (ps.take (k + 1)) = encPs (ps.take k) ++ encPr ps[k]) := by
        show _ = _
        rw [List.take_succ_eq_append_getElem hlt]
        unfold encPs
        rw [List.flatMap_append]
        simp
      generalize ps[k] = y at hck hcv Hm HE
      obtain ⟨kk, vv⟩ := y
      dsimp only at hck hcv Hm
      obtain ⟨KB, HKB⟩ : ∃ KB : ByteArray, Hid (⟨(strB kk.data.toList).toArray⟩ = KB) := ⟨_, rfl⟩
      obtain ⟨VB, HVB⟩ : ∃ VB : ByteArray, Hid (⟨(strB vv.data.toList).toArray⟩ = VB) := ⟨_, rfl⟩
      have HT : Hid (A ++ (KB ++ VB) = ⟨([1, UInt8.ofNat ps.length] ++ encPs (ps.take (k + 1))).toArray⟩) := by
        show _ = _
        rw [HA.out, ← HKB.out, ← HVB.out, catN, catN, HE.out, List.append_assoc]
        rfl
      have hKs : KB.size ≤ 256 := by
        rw [← HKB.out]
        show (strB kk.data.toList).toArray.size ≤ _
        have := Hm.out
        rw [List.size_toArray, strB_len' _ (by rw [size_list]; omega), size_list]
        omega
      have hVs : VB.size ≤ 256 := by
        rw [← HVB.out]
        show (strB vv.data.toList).toArray.size ≤ _
        have := Hm.out
        rw [List.size_toArray, strB_len' _ (by rw [size_list]; omega), size_list]
        omega
      have hAs : A.size ≤ 256 := by
        rw [HA.out]
        show ([1, UInt8.ofNat ps.length] ++ encPs (ps.take k)).toArray.size ≤ _
        rw [List.size_toArray]
        exact HBL.out k (by omega)
      have hsz1 : ¬ 9223372036854775807 < KB.size + VB.size := by omega
      have hsz2 : ¬ 9223372036854775807 < A.size + (KB.size + VB.size) := by omega
      have hs1 : Hid (∀ (W : World) (z : ByteArray), z = kk → Calls Tryd.prog 51 #[.string z] W fun y w' => y = .returned (.string KB) ∧ Kp none' W w') := by
        rintro W _ rfl
        rw [← HKB.out]
        refine (rfstr_any _ W (by have := Hm.out; unfold maxLen; omega)).mono ?_
        rintro e w' ⟨rfl, hg⟩
        exact ⟨rfl, Kp.ofN hg _⟩
      have hs2 : Hid (∀ (W : World) (z : ByteArray), z = vv → Calls Tryd.prog 51 #[.string z] W fun y w' => y = .returned (.string VB) ∧ Kp none' W w') := by
        rintro W _ rfl
        rw [← HVB.out]
        refine (rfstr_any _ W (by have := Hm.out; unfold maxLen; omega)).mono ?_
        rintro e w' ⟨rfl, hg⟩
        exact ⟨rfl, Kp.ofN hg _⟩
      clear HKB HVB Hm HA hKs hVs hAs
      have c1W : ∀ W : World, Kp none' wr W → W.cell? ⟨w.heap.size, 1, none⟩ = some (.slice (some ⟨b, off, none⟩) ps.length c) := fun W h => h.cell hc1 (fun h => h)
      have ckW : ∀ W : World, Kp none' wr W → W.cell? ⟨b, off + k * 2, none⟩ = some (.string kk) := fun W h => h.cell hck (fun h => h)
      have cvW : ∀ W : World, Kp none' wr W → W.cell? ⟨b, off + k * 2 + 1, none⟩ = some (.string vv) := fun W h => h.cell hcv (fun h => h)
      have dr : Kp none' wr wr.drew := Kp.drew _ _
      clear hck hcv hbr HE
      go_upto_region 11 with fail
      go_region_held_law (fun W => Kp none' wr W) (first | assumption | exact dr) (first
        | (go_at_call 51; refine (hs1.out _ _ (by rfl)).mono ?_; rintro e w5 ⟨rfl, hg5⟩; have S5 : Kp none' wr w5 := Kp.thenN (by assumption) hg5)
        | (go_at_call 51; refine (hs2.out _ _ (by rfl)).mono ?_; rintro e w6 ⟨rfl, hg6⟩; have S6 : Kp none' wr w6 := Kp.thenN (by assumption) hg6))
      go_wp2
      go_roundw
      case rel => exact ⟨k + 1, _, by omega, by go_num, rfl, HT.out, hKr.thenN S6⟩
      case measure => simp [intOf]; omega
    · have hk' : ¬ (k : Int) < (ps.length : Int) := by omega
      have HA2 : Hid (A = ⟨n0.toArray⟩) := by
        show _ = _
        rw [HA.out, List.take_of_length_le (by omega), HN0.out]
      have hAs : A.size ≤ 256 := by
        rw [HA.out]
        show ([1, UInt8.ofNat ps.length] ++ encPs (ps.take k)).toArray.size ≤ _
        rw [List.size_toArray]
        exact HBL.out k (by omega)
      have HAL : Hid (A.size = n0.length) := by show _ = _; rw [HA2.out]; show n0.toArray.size = _; simp
      obtain ⟨K, HK⟩ : ∃ K : Nat, Hid (256 - A.size = K) := ⟨_, rfl⟩
      have hwi : IntKind.i64.wrap (256 - (A.size : Int)) = (K : Int) := by rw [← HK.out, IntKind.wrap_i64]; omega
      have hK8 : K ≤ 256 := by have := HK.out; omega
      have hsz : ¬ 9223372036854775807 < A.size + K := by omega
      have HFIN : Hid (A ++ ⟨Array.replicate K 0⟩ = ⟨pg.toArray⟩) := by
        show _ = _
        rw [show (Array.replicate K (0 : UInt8)) = (List.replicate K 0).toArray by simp]
        rw [HA2.out, catN, HPG2.out, HN0.out, ← HAL.out, HK.out]
      clear HA hbr HPA HBL HM HT0 HT1 HT2 hT12 hwp HSZ
      go_wp2_with (at_make; refine wpList_make_full _ rfl (.tmp 87) (.tmp 87) 77 rfl 0 5 i0 (.int .u8 0) 1 Tryd.underlying77 hi hz0 hz1 .i64 .i64 _ _ K rfl rfl rfl rfl (by rw [hz2]; omega) (by unfold maxLen; omega) (Nat.zero_le _) ?_; intro w5 ho5 hg5; have hcv := run_convert_own (P := Tryd.prog) w5 77 9 5 Tryd.underlying77 Tryd.underlying5 Tryd.underlying9 (made_own _ _ _ ho5))
      go_ret2
      rw [HFIN.out]
      exact ⟨rfl, hKw.thenN (hKr.thenN (Kp.ofN hg5 _))⟩

end Go.Proofs.YtponhibiomcidaaDoor
