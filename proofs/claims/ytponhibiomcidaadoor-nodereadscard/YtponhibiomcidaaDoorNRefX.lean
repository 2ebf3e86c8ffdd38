/- Contracts, over the turned program: what the document's Write answers of inner nodes, and of all. Conditions: those that each theorem states. -/
import Derived.Test.YtponhibiomcidaaDoorNRefW
namespace Go.Proofs.YtponhibiomcidaaDoor
open Go Go.RowKit
set_option linter.unusedVariables false

theorem encKs_snoc : ∀ (l : List ByteArray) (m : List Int) (k : Nat) (h : k < l.length) (h' : k < m.length), encKs (l.take (k + 1)) m = encKs (l.take k) m ++ (strB l[k].data.toList ++ be m[k].toNat 2)
  | x :: l, z :: m, 0, _, _ => by simp [encKs]
  | x :: l, z :: m, k + 1, h, h' => by
    have ih := encKs_snoc l m k (by simpa using h) (by simpa using h')
    simp only [List.take_succ_cons, encKs, List.getElem_cons_succ, List.append_assoc] at ih ⊢
    rw [ih]
  | [], _, _, h, _ => absurd h (by simp)
  | _ :: _, [], _, _, h => absurd h (by simp)
theorem sumK_takele (l : List ByteArray) (j : Nat) : ((l.take j).map kSize).sum ≤ (l.map kSize).sum := by
  conv => rhs; rw [← List.take_append_drop j l, List.map_append, List.sum_append]
  exact Nat.le_add_right _ _
theorem encKs_le : ∀ (l : List ByteArray) (m : List Int), (∀ k ∈ l, k.size ≤ 255) → (encKs l m).length ≤ (l.map kSize).sum
  | [], _, _ => by simp [encKs]
  | _ :: _, [], _ => by simp [encKs]
  | k :: l, d :: m, h => by
    have h1 := h k List.mem_cons_self
    have h2 := encKs_le l m (fun q hq => h q (List.mem_cons_of_mem _ hq))
    show (strB k.data.toList ++ be d.toNat 2 ++ encKs l m).length ≤ kSize k + (l.map kSize).sum
    rw [List.length_append, List.length_append, strB_len' _ (by rw [size_list]; exact h1), be_len, size_list, show kSize k = 3 + k.size from rfl]
    omega
theorem rnumd (c : Nat) (v : Int) (hv : v = (c : Int)) (w : World) (hn : c < 65536) :
    Calls Tryd.prog 50 #[.int .u64 v, .int .i64 2] w fun y w' => y = .returned (.string ⟨(be c 2).toArray⟩) ∧ Kp none' w w' := by
  subst hv
  refine (rfnum_any c 2 w (by omega)).mono ?_
  rintro e w' ⟨rfl, hg⟩
  exact ⟨rfl, Kp.ofN hg _⟩

set_option maxRecDepth 100000 in
set_option maxHeartbeats 2000000 in
theorem rwrite9_inner (x : Value) (n : Nd) (B : Nat) (w : World) (hN : Nv B w x n) (hB : B ≤ w.heap.size) (hp : n.ps.length ≤ 1099511627776) (hk : n.ks.length ≤ 1099511627776) (hl : n.leaf = false) (h : n.right = true) (hs : n.size ≤ 256) :
    Calls Tryd.prog 20 #[x] w fun e w' => e = .returned (.tuple #[.string ⟨n.page.toArray⟩, .int .i64 0]) ∧ Kp none' w w' := by
  obtain ⟨r1, r2, r3, r4⟩ := right_inner h hl
  have HM : Hid (∀ k ∈ n.ks, k.size ≤ 32) := fun k hk => (ordN_mem r4 k hk).2
  have HD : Hid (∀ i (hi : i < n.kd.length), ∃ q : Nat, n.kd[i] = (q : Int) ∧ q < 65536) := fun i hi => ⟨n.kd[i].toNat, by have := r1 _ (List.getElem_mem hi); omega, by have := r1 _ (List.getElem_mem hi); omega⟩
  have HSZ : Hid (4 + (n.ks.map kSize).sum ≤ 256) := by show _ ≤ _; unfold Nd.size at hs; simpa [hl] using hs
  have hpl : n.ks.length ≤ 127 := by have := sumK_ge3 n.ks; have := HSZ.out; omega
  have HKL : Hid (n.kd.length = n.ks.length + 1) := r3
  have HBODY : Hid (n.body = [2, UInt8.ofNat n.ks.length] ++ be (n.kd.headD 0).toNat 2 ++ encKs n.ks n.kd.tail) := by show _ = _; unfold Nd.body; simp [hl]
  have HW0 : Hid (wrap64 (n.size : Int) = (n.size : Int)) := right_size h hp hk
  have hz' : ¬ 256 < (n.size : Int) := by omega
  clear r1 r2 r3 r4 hs
  obtain ⟨pg, HPG⟩ : ∃ pg, Hid (n.page = pg) := ⟨_, rfl⟩
  have HPG2 : Hid (pg = n.body ++ List.replicate (256 - n.body.length) 0) := by show _ = _; rw [← HPG.out]; rfl
  rw [HPG.out]
  have hN' := hN
  obtain ⟨⟨pv, kv, dv, rfl, hP, hS, hD⟩, hwf⟩ := hN'
  obtain ⟨n0, HN0⟩ : ∃ l, Hid (n.body = l) := ⟨_, rfl⟩
  obtain ⟨lf, ps, ks, kd⟩ := n
  dsimp only at *
  subst hl
  rw [HBODY.out] at HN0
  rw [HBODY.out] at HPG2
  obtain ⟨sz, HS⟩ : ∃ sz, Hid ((⟨false, ps, ks, kd⟩ : Nd).size = sz) := ⟨_, rfl⟩
  rw [HS.out] at hz'
  have HW : Hid (wrap64 (sz : Int) = (sz : Int)) := by have := HW0.out; rw [HS.out] at this; exact this
  clear HW0
  have hK0 : Kp none' w (w.alloc (.cells #[.bool false, pv, kv, dv] 27)) := Kp.alloc _ _ _
  have hN0 := hN.keptN hK0
  have hs0 : B ≤ (w.alloc (.cells #[.bool false, pv, kv, dv] 27)).heap.size := Nat.le_trans hB hK0.size
  have hb := Nb.new w false pv kv dv
  have HBL : Hid (∀ j q, ([2, UInt8.ofNat ks.length] ++ be q 2 ++ encKs (ks.take j) kd.tail).length ≤ 256) := by
    intro j q
    have h1 := encKs_le (ks.take j) kd.tail (fun k hk => by have := HM.out k (List.mem_of_mem_take hk); omega)
    have h2 := sumK_takele ks j
    have h3 := HSZ.out
    rw [List.length_append, List.length_append, be_len]
    simp only [List.length_cons, List.length_nil]
    omega
  have hS0 := hS.keptN hK0
  have hD0 := hD.keptN hK0
  obtain ⟨a, c, rfl, hlc, hcm, _⟩ := hS
  obtain ⟨a2, c2, rfl, hlc2, hcm2, hda⟩ := hD
  have hd0 : 0 < kd.length := by have := HKL.out; omega
  obtain ⟨bd, od, rfl, _, _⟩ := hda 0 hd0
  clear hda
  unfold maxLen at hcm hcm2
  obtain ⟨q0, Hq0⟩ : ∃ q : Nat, Hid (kd[0] = (q : Int) ∧ q < 65536) := HD.out 0 hd0
  obtain ⟨i0, hi, hz0, hz1, hz2⟩ := info_parts Tryd.info5
  obtain ⟨T1, HT1⟩ : ∃ T : ByteArray, Hid (⟨#[UInt8.ofNat 2]⟩ = T) := ⟨_, rfl⟩
  obtain ⟨T2, HT2⟩ : ∃ T : ByteArray, Hid (⟨#[UInt8.ofNat ks.length]⟩ = T) := ⟨_, rfl⟩
  obtain ⟨T3, HT3⟩ : ∃ T : ByteArray, Hid (⟨(be q0 2).toArray⟩ = T) := ⟨_, rfl⟩
  have hT12 : ¬ 9223372036854775807 < T1.size + T2.size := by rw [← HT1.out, ← HT2.out]; show ¬ _ < 1 + 1; omega
  have hT123 : ¬ 9223372036854775807 < T1.size + T2.size + T3.size := by
    rw [← HT1.out, ← HT2.out, ← HT3.out]
    show ¬ _ < 1 + 1 + (be q0 2).toArray.size
    rw [List.size_toArray, be_len]
    omega
  have hn1 : Hid (∀ (W : World) (v u : Int), v = 2 → u = 1 → Calls Tryd.prog 50 #[.int .u64 v, .int .i64 u] W fun y w' => y = .returned (.string T1) ∧ Kp none' W w') := by rw [← HT1.out]; rintro W v _ hv rfl; exact rnumc 2 v hv W (by omega)
  have hn2 : Hid (∀ (W : World) (v u : Int), v = (ks.length : Int) → u = 1 → Calls Tryd.prog 50 #[.int .u64 v, .int .i64 u] W fun y w' => y = .returned (.string T2) ∧ Kp none' W w') := by rw [← HT2.out]; rintro W v _ hv rfl; exact rnumc ks.length _ hv W (by omega)
  have hn3 : Hid (∀ (W : World) (v u : Int), v = (q0 : Int) → u = 2 → Calls Tryd.prog 50 #[.int .u64 v, .int .i64 u] W fun y w' => y = .returned (.string T3) ∧ Kp none' W w') := by rw [← HT3.out]; rintro W v _ hv rfl; exact rnumd q0 _ hv W Hq0.out.2
  have HHD : Hid ((kd.headD 0).toNat = q0) := by
    show _ = _
    cases kd with
    | nil => simp at hd0
    | cons z m => have := Hq0.out.1; simp at this; simp [this]
  have HT0 : Hid (T1 ++ T2 ++ T3 = ⟨([2, UInt8.ofNat ks.length] ++ be q0 2 ++ encKs (ks.take 0) kd.tail).toArray⟩) := by
    show _ = _
    rw [← HT1.out, ← HT2.out, ← HT3.out, show (⟨#[UInt8.ofNat 2]⟩ : ByteArray) ++ ⟨#[UInt8.ofNat ks.length]⟩ = ⟨[2, UInt8.ofNat ks.length].toArray⟩ from rfl, catN]
    simp [encKs]
  rw [HHD.out] at HN0
  rw [HHD.out] at HPG2
  have hq0' : ∃ dz : Int, Hid (dz = (q0 : Int)) := ⟨_, rfl⟩
  go_enter Tryd.func20, Tryd.ntmps20
  go_upto_region 3 with (first
    | (go_at_call 48; refine (rright_any _ ⟨false, ps, ks, kd⟩ B _ hN0 hs0 hp).mono ?_; rintro e w1 ⟨rfl, hK1⟩; rw [h])
    | fail)
  have hb1 := hb.kept hK1 (fun h => h)
  have hN1 := hN0.keptN hK1
  have d0 := hb1.c0
  have d1 := hb1.c1
  have d2 := hb1.c2
  have d3 := hb1.c3
  clear hN0 hs0
  go_upto_region 12 with (first
    | (go_at_call 49; refine (rsize9_any _ ⟨false, ps, ks, kd⟩ B _ hN1).mono ?_; rintro e w2 ⟨rfl, hK2⟩; rw [HS.out, HW.out]; have d0' := hK2.cell d0 (fun h => h))
    | fail)
  have hb2 := hb1.kept hK2 (fun h => h)
  have hc2 : ∀ W : World, Kp none' w2 W → W.cell? ⟨w.heap.size, 2, none⟩ = some (.slice a ks.length c) := fun W hk => (hb2.kept hk (fun h => h)).c2
  have hc3 : ∀ W : World, Kp none' w2 W → W.cell? ⟨w.heap.size, 3, none⟩ = some (.slice (some ⟨bd, od, none⟩) kd.length c2) := fun W hk => (hb2.kept hk (fun h => h)).c3
  have hck : ∀ W : World, Kp none' w2 W → W.cell? ⟨bd, od, none⟩ = some (.int .i64 (q0 : Int)) := fun W hk => by
    obtain ⟨_, _, e, _, _, hx⟩ := hD0.keptN (hK1.thenN (hK2.thenN hk))
    cases e
    obtain ⟨b', o', e, _, h1⟩ := hx 0 hd0
    cases e
    rw [Hq0.out.1] at h1
    exact h1
  have dr : Kp none' w2 w2.drew := Kp.drew _ _
  have hd1 : 0 < (kd.length : Int) := by omega
  have hl255 : (ks.length : Int) < 18446744073709551616 := by omega
  have hl256 : (q0 : Int) < 18446744073709551616 := by have := Hq0.out.2; omega
  go_region_held_law (fun W => Kp none' w2 W) (first | assumption | exact dr) (first
    | (go_at_call 50; refine (hn3.out _ _ _ (by first | with_reducible rfl | (rw [IntKind.wrap_u64]; omega) | omega) (by with_reducible rfl)).mono ?_; rintro e w5 ⟨rfl, hg5⟩; have S5 : Kp none' w2 w5 := Kp.thenN (by assumption) hg5)
    | (go_at_call 50; refine (hn2.out _ _ _ (by first | with_reducible rfl | (rw [IntKind.wrap_u64]; omega) | omega) (by with_reducible rfl)).mono ?_; rintro e w4 ⟨rfl, hg4⟩; have S4 : Kp none' w2 w4 := Kp.thenN (by assumption) hg4)
    | (go_at_call 50; refine (hn1.out _ _ _ (by first | with_reducible rfl | (rw [IntKind.wrap_u64]; omega) | omega) (by with_reducible rfl)).mono ?_; rintro e w3 ⟨rfl, hg3⟩; have S3 : Kp none' w2 w3 := Kp.thenN (by assumption) hg3))
  clear hl255 hl256
  have hKw : Kp none' w w5 := hK0.thenN (hK1.thenN (hK2.thenN S5))
  have hb4 := hb2.kept S5 (fun h => h)
  have HSA : Hid (Sl Value.string B w5 (.slice a ks.length c) ks) := hS0.keptN (hK1.thenN (hK2.thenN S5))
  have HDA : Hid (Sl (Value.int .i64) B w5 (.slice (some ⟨bd, od, none⟩) kd.length c2) kd) := hD0.keptN (hK1.thenN (hK2.thenN S5))
  clear hc2 hc3 hck dr hb hb1 hb2 d0 d1 d2 d3 d0' hS0 hD0 hN1 hN hP hwf h hK0 hK1 hK2 S3 S4 S5 hg3 hg4 hg5 hz' HW hn1 hn2 hn3 hd1 hq0'
  go_wp2
  go_loopw [4, 6] (fun b t wr => ∃ (k : Nat) (A : ByteArray), k ≤ ks.length ∧ t = .int .i64 k ∧ b = .string A ∧ Hid (A = ⟨([2, UInt8.ofNat ks.length] ++ be q0 2 ++ encKs (ks.take k) kd.tail).toArray⟩) ∧ Kp none' w5 wr) (fun _ t _ => ks.length - (intOf t).toNat)
  case atStart => exact ⟨0, _, Nat.zero_le _, rfl, rfl, HT0.out, Kp.refl _ _⟩
  case round =>
    obtain ⟨k, A, hk, rfl, rfl, HA, hKr⟩ := hrel
    have hbr := hb4.kept hKr (fun h => h)
    have hc2 := hbr.c2
    have hc3 := hbr.c3
    have hAs : A.size ≤ 256 := by
      rw [HA.out]
      show ([2, UInt8.ofNat ks.length] ++ be q0 2 ++ encKs (ks.take k) kd.tail).toArray.size ≤ _
      rw [List.size_toArray]
      exact HBL.out k q0
    by_cases hlt : k < ks.length
    · obtain ⟨a', c', e, _, _, hx⟩ := HSA.out
      cases e
      obtain ⟨b, off, rfl, _, hck⟩ := hx k hlt
      have hck := hKr.cell hck (fun h => h)
      clear hx
      have hk1 : k + 1 < kd.length := by have := HKL.out; omega
      obtain ⟨a3, c3, e, _, _, hx⟩ := HDA.out
      cases e
      obtain ⟨b3, off3, e, _, hcd⟩ := hx (k + 1) hk1
      cases e
      have hcd := hKr.cell hcd (fun h => h)
      clear hx
      obtain ⟨q, Hq⟩ : ∃ q : Nat, Hid (kd[k + 1] = (q : Int) ∧ q < 65536) := HD.out (k + 1) hk1
      rw [Hq.out.1] at hcd
      have hk' : (k : Int) < (ks.length : Int) := by omega
      have Hm : Hid (ks[k].size ≤ 32) := HM.out ks[k] (List.getElem_mem hlt)
      have HE : Hid (encKs (ks.take (k + 1)) kd.tail = encKs (ks.take k) kd.tail ++ (strB ks[k].data.toList ++ be q 2)) := by
        show _ = _
        rw [encKs_snoc ks kd.tail k hlt (by rw [List.length_tail]; omega)]
        have e2 : (kd.tail[k]'(by rw [List.length_tail]; omega)) = kd[k + 1] := by simp
        rw [e2, Hq.out.1]
        rfl
      generalize ks[k] = kk at hck Hm HE
      obtain ⟨KB, HKB⟩ : ∃ KB : ByteArray, Hid (⟨(strB kk.data.toList).toArray⟩ = KB) := ⟨_, rfl⟩
      obtain ⟨VB, HVB⟩ : ∃ VB : ByteArray, Hid (⟨(be q 2).toArray⟩ = VB) := ⟨_, rfl⟩
      have HT : Hid (A ++ (KB ++ VB) = ⟨([2, UInt8.ofNat ks.length] ++ be q0 2 ++ encKs (ks.take (k + 1)) kd.tail).toArray⟩) := by
        show _ = _
        rw [HA.out, ← HKB.out, ← HVB.out, catN, catN, HE.out]
        simp only [List.append_assoc]
      have hKs : KB.size ≤ 256 := by
        rw [← HKB.out]
        show (strB kk.data.toList).toArray.size ≤ _
        have := Hm.out
        rw [List.size_toArray, strB_len' _ (by rw [size_list]; omega), size_list]
        omega
      have hVs : VB.size ≤ 256 := by
        rw [← HVB.out]
        show (be q 2).toArray.size ≤ _
        rw [List.size_toArray, be_len]
        omega
      have hsz1 : ¬ 9223372036854775807 < KB.size + VB.size := by omega
      have hsz2 : ¬ 9223372036854775807 < A.size + (KB.size + VB.size) := by omega
      have hs1 : Hid (∀ (W : World) (z : ByteArray), z = kk → Calls Tryd.prog 51 #[.string z] W fun y w' => y = .returned (.string KB) ∧ Kp none' W w') := by
        rintro W _ rfl
        rw [← HKB.out]
        refine (rfstr_any _ W (by have := Hm.out; unfold maxLen; omega)).mono ?_
        rintro e w' ⟨rfl, hg⟩
        exact ⟨rfl, Kp.ofN hg _⟩
      have hs2 : Hid (∀ (W : World) (v u : Int), v = (q : Int) → u = 2 → Calls Tryd.prog 50 #[.int .u64 v, .int .i64 u] W fun y w' => y = .returned (.string VB) ∧ Kp none' W w') := by rw [← HVB.out]; rintro W v _ hv rfl; exact rnumd q _ hv W Hq.out.2
      clear HKB HVB Hm HA hKs hVs hAs HE
      obtain ⟨k1, HK1⟩ : ∃ k1 : Nat, Hid (k + 1 = k1) := ⟨_, rfl⟩
      have hwk : IntKind.i64.wrap ((k : Int) + 1) = (k1 : Int) := by rw [← HK1.out, IntKind.wrap_i64]; omega
      rw [HK1.out] at hcd
      have hk1' : (k1 : Int) < (kd.length : Int) := by have := HK1.out; omega
      have hk1n : k1 < kd.length := by have := HK1.out; omega
      have c2W : ∀ W : World, Kp none' wr W → W.cell? ⟨w.heap.size, 2, none⟩ = some (.slice (some ⟨b, off, none⟩) ks.length c) := fun W h => h.cell hc2 (fun h => h)
      have c3W : ∀ W : World, Kp none' wr W → W.cell? ⟨w.heap.size, 3, none⟩ = some (.slice (some ⟨bd, od, none⟩) kd.length c2) := fun W h => h.cell hc3 (fun h => h)
      have ckW : ∀ W : World, Kp none' wr W → W.cell? ⟨b, off + k, none⟩ = some (.string kk) := fun W h => h.cell hck (fun h => h)
      have cvW : ∀ W : World, Kp none' wr W → W.cell? ⟨bd, od + k1, none⟩ = some (.int .i64 (q : Int)) := fun W h => h.cell hcd (fun h => h)
      have dr : Kp none' wr wr.drew := Kp.drew _ _
      clear hck hcd hbr
      go_upto_region 16 with fail
      have hl256 : (q : Int) < 18446744073709551616 := by have := Hq.out.2; omega
      go_region_held_law (fun W => Kp none' wr W) (first | assumption | exact dr) (first
        | (go_at_call 51; refine (hs1.out _ _ (by rfl)).mono ?_; rintro e w6 ⟨rfl, hg6⟩; have S6 : Kp none' wr w6 := Kp.thenN (by assumption) hg6)
        | (go_at_call 50; refine (hs2.out _ _ _ (by first | with_reducible rfl | (rw [IntKind.wrap_u64]; omega) | omega) (by with_reducible rfl)).mono ?_; rintro e w7 ⟨rfl, hg7⟩; have S7 : Kp none' wr w7 := Kp.thenN (by assumption) hg7))
      clear hl256
      go_wp2
      go_roundw
      case rel => exact ⟨k + 1, _, by omega, congrArg (Value.int .i64) (by have := HK1.out; omega), rfl, HT.out, hKr.thenN S7⟩
      case measure => simp [intOf]; have := HK1.out; omega
    · have hk' : ¬ (k : Int) < (ks.length : Int) := by omega
      have HA2 : Hid (A = ⟨n0.toArray⟩) := by
        show _ = _
        rw [HA.out, List.take_of_length_le (by omega), HN0.out]
      have HAL : Hid (A.size = n0.length) := by show _ = _; rw [HA2.out]; show n0.toArray.size = _; simp
      obtain ⟨K, HK⟩ : ∃ K : Nat, Hid (256 - A.size = K) := ⟨_, rfl⟩
      have hwi : IntKind.i64.wrap (256 - (A.size : Int)) = (K : Int) := by rw [← HK.out, IntKind.wrap_i64]; omega
      have hK8 : K ≤ 256 := by have := HK.out; omega
      have hsz : ¬ 9223372036854775807 < A.size + K := by omega
      have HFIN : Hid (A ++ ⟨Array.replicate K 0⟩ = ⟨pg.toArray⟩) := by
        show _ = _
        rw [show (Array.replicate K (0 : UInt8)) = (List.replicate K 0).toArray by simp]
        rw [HA2.out, catN, HPG2.out, HN0.out, ← HAL.out, HK.out]
      clear HA hbr HSA HDA HBL HM HT0 HT1 HT2 HT3 hT12 hT123 HSZ
      go_wp2_with (at_make; refine wpList_make_full _ rfl (.tmp 87) (.tmp 87) 77 rfl 0 5 i0 (.int .u8 0) 1 Tryd.underlying77 hi hz0 hz1 .i64 .i64 _ _ K rfl rfl rfl rfl (by rw [hz2]; omega) (by unfold maxLen; omega) (Nat.zero_le _) ?_; intro w8 ho8 hg8; have hcv := run_convert_own (P := Tryd.prog) w8 77 9 5 Tryd.underlying77 Tryd.underlying5 Tryd.underlying9 (made_own _ _ _ ho8))
      go_ret2
      rw [HFIN.out]
      exact ⟨rfl, hKw.thenN (hKr.thenN (Kp.ofN hg8 _))⟩
theorem rwrite9_any (x : Value) (n : Nd) (B : Nat) (w : World) (hN : Nv B w x n) (hB : B ≤ w.heap.size) (hp : n.ps.length ≤ 1099511627776) (hk : n.ks.length ≤ 1099511627776) :
    Calls Tryd.prog 20 #[x] w fun e w' => e = .returned (.tuple #[.string n.write, .int .i64 n.writeE]) ∧ Kp none' w w' := by
  by_cases hr : n.writeE = 0
  · have h1 : n.right = true ∧ n.size ≤ 256 := by
      unfold Nd.writeE at hr
      split at hr
      · split at hr
        · cases hr
        · exact ⟨by assumption, by omega⟩
      · cases hr
    have e1 : n.write = ⟨n.page.toArray⟩ := by unfold Nd.write; simp [hr]; rfl
    rw [e1, hr]
    cases hl : n.leaf with
    | true => exact rwrite9_leaf x n B w hN hB hp hk hl h1.1 h1.2
    | false => exact rwrite9_inner x n B w hN hB hp hk hl h1.1 h1.2
  · have e1 : n.write = ⟨#[]⟩ := by unfold Nd.write; simp [hr]; rfl
    rw [e1]
    exact rwrite9_bad x n B w hN hB hp hk hr

end Go.Proofs.YtponhibiomcidaaDoor
