/- Contracts, over the turned program: which value, which record bytes are. Conditions: those that each theorem states. -/
import Derived.Test.YtamgnpmkmlhadaaEWrt
namespace Go.Proofs.Ytamgnpmkmlhadaa
open Go.RowKit
set_option linter.unusedVariables false

theorem nN_size (t : Sr) (k : Nat) : (nN t k).1.size ≤ t.1.size := by
  unfold nN rawS
  dsimp only
  split
  · exact Nat.le_refl _
  · rw [ByteArray.size_extract]; omega
theorem sN_size (t : Sr) : (sN t).1.size ≤ t.1.size := by
  unfold sN strS
  dsimp only
  split
  · rw [ByteArray.size_extract]; omega
  · exact Nat.le_refl _
theorem nX_lt (t : Sr) (k : Nat) : nX t k < 256 ^ k := by
  unfold nX
  have h := val_lt (rawR t.1 t.2 k).data.toList
  have h2 := rawR_size t.1 t.2 k
  have h3 : (rawR t.1 t.2 k).data.toList.length = (rawR t.1 t.2 k).size := by rw [Array.length_toList]; rfl
  exact Nat.lt_of_lt_of_le h (Nat.pow_le_pow_right (by omega) (by omega))
theorem sX_size (t : Sr) : (sX t).size ≤ 255 := by
  unfold sX strR
  split
  · rw [ByteArray.size_extract]
    have : strN t.1 < 256 := by unfold strN; exact UInt8.toNat_lt _
    omega
  · exact Nat.zero_le _
/-- A reader in memory, with what is left and the error. -/
def Rq (w : World) (b : Nat) (t : Sr) : Prop := Rd w b t.1 t.2 ∧ t.1.size ≤ maxLen
theorem Rq.lt {w : World} {b : Nat} {t : Sr} (h : Rq w b t) : b < w.heap.size := h.1.lt
theorem Rq.kept {w w' : World} {b : Nat} {t : Sr} {row : Option Nat} (h : Rq w b t) (hg : w.grownBy w' row) (hne : some b ≠ row) : Rq w' b t := ⟨h.1.kept hg hne, h.2⟩
theorem nnum_any (b : Nat) (t : Sr) (k : Int) (m : Nat) (hm : wid k = m) (w : World) (h : Rq w b t) :
    Calls Try.prog 47 #[.pointer (some ⟨b, 0, none⟩), .int .i64 k] w fun y w' => y = .returned (.int .u64 (nX t m : Int)) ∧ Rq w' b (nN t m) ∧ w.grownBy w' (some b) := by
  subst hm
  refine (rnum_any b t.1 t.2 k w h.1 h.2).mono ?_
  rintro y w' ⟨rfl, hR, hg⟩
  exact ⟨rfl, ⟨hR, Nat.le_trans (nN_size t _) h.2⟩, hg⟩
theorem sstr_any (b : Nat) (t : Sr) (w : World) (h : Rq w b t) :
    Calls Try.prog 64 #[.pointer (some ⟨b, 0, none⟩), .int .i64 10] w fun y w' => y = .returned (.string (sX t)) ∧ Rq w' b (sN t) ∧ w.grownBy w' (some b) := by
  refine (rstr_any b t.1 t.2 10 w h.1 h.2).mono ?_
  rintro y w' ⟨rfl, hR, hg⟩
  exact ⟨rfl, ⟨hR, Nat.le_trans (sN_size t) h.2⟩, hg⟩
def put39 (w : World) (q : Nat) (y : V) : World := ((w.setCell ⟨q, 0, none⟩ (.int .i64 y.k)).setCell ⟨q, 1, none⟩ (.int .i64 y.n)).setCell ⟨q, 2, none⟩ (.string y.s)
theorem Vb.set1 {w : World} {b : Nat} {x : V} (h : Vb w b x) (z : Int) : Vb (w.setCell ⟨b, 1, none⟩ (.int .i64 z)) b ⟨x.k, z, x.s⟩ := by
  unfold Vb; rw [heap_setCell_same w b 1 _ 24 (.int .i64 z) h]; rfl
theorem Vb.set2 {w : World} {b : Nat} {x : V} (h : Vb w b x) (z : ByteArray) : Vb (w.setCell ⟨b, 2, none⟩ (.string z)) b ⟨x.k, x.n, z⟩ := by
  unfold Vb; rw [heap_setCell_same w b 2 _ 24 (.string z) h]; rfl
theorem Vb.put39 {w : World} {q : Nat} {x : V} (h : Vb w q x) (y : V) : Vb (put39 w q y) q y ∧ w.grownBy (Go.Proofs.Ytamgnpmkmlhadaa.put39 w q y) (some q) := by
  constructor
  · unfold Vb at h ⊢
    have h1 := heap_setCell_same w q 0 _ 24 (.int .i64 y.k) h
    have h2 := heap_setCell_same _ q 1 _ 24 (.int .i64 y.n) h1
    have h3 := heap_setCell_same _ q 2 _ 24 (.string y.s) h2
    unfold Go.Proofs.Ytamgnpmkmlhadaa.put39
    rw [h3]
    rfl
  · unfold Go.Proofs.Ytamgnpmkmlhadaa.put39
    exact grown_trans (grown_trans (grown_set9 _ _ _ _) (grown_set9 _ _ _ _) (.inl rfl)) (grown_set9 _ _ _ _) (.inl rfl)
theorem vend9 {w w1 : World} {b q : Nat} {t : Sr} {x : V} (y : V) (hR : Rq w1 b t) (hV : Vb w1 q x) (hg : w.grownBy w1 (some b)) (hq : w.heap.size ≤ q) (hb : b ≠ q) :
    Vb (put39 w1 q y) q y ∧ Rq (put39 w1 q y) b t ∧ w.grownBy (put39 w1 q y) (some b) := by
  have h := hV.put39 y
  exact ⟨h.1, hR.kept h.2 (by intro e; exact hb (Option.some.inj e)), grown_new hg h.2 (fun j e => by cases e; exact hq)⟩
theorem nat_i64 (N : Nat) (h : N < 9223372036854775808) : wrap64 (N : Int) = (N : Int) := by unfold wrap64; omega

set_option maxRecDepth 100000 in
set_option maxHeartbeats 1000000 in
theorem erv_any (b : Nat) (t : Sr) (w : World) (h : Rq w b t) :
    Calls Try.prog 57 #[.pointer (some ⟨b, 0, none⟩)] w fun y w' => y = .returned (vX t).val ∧ Rq w' b (vN t) ∧ w.grownBy w' (some b) := by
  have hga := World.grownBy_alloc w (.cells #[.int .i64 0, .int .i64 0, .string ⟨#[]⟩] 24) none
  have h0 := h.kept hga (by simp)
  have hV : Vb (w.alloc (.cells #[.int .i64 0, .int .i64 0, .string ⟨#[]⟩] 24)) w.heap.size ⟨0, 0, ⟨#[]⟩⟩ := Vb.new w ⟨0, 0, ⟨#[]⟩⟩
  have hb := h.lt
  have hN := nX_lt t 1
  have Hv : Hid (vX t = if nX t 1 = 1 then ⟨1, wrap64 (nX (nN t 1) 8 : Int), mkB []⟩ else if nX t 1 = 2 then ⟨2, 0, sX (nN t 1)⟩ else ⟨(nX t 1 : Int), 0, mkB []⟩) := rfl
  have Hn : Hid (vN t = if nX t 1 = 1 then nN (nN t 1) 8 else if nX t 1 = 2 then sN (nN t 1) else nN t 1) := rfl
  obtain ⟨X, HX⟩ : ∃ X, Hid (vX t = X) := ⟨_, rfl⟩
  obtain ⟨Y, HY⟩ : ∃ Y, Hid (vN t = Y) := ⟨_, rfl⟩
  rw [HX.out] at Hv ⊢
  rw [HY.out] at Hn ⊢
  have hc := nnum_any b t 1 1 wid1 _ h0
  have hc2 := fun W (H : Rq W b (nN t 1)) => nnum_any b (nN t 1) 8 8 wid8 W H
  have hc3 := fun W (H : Rq W b (nN t 1)) => sstr_any b (nN t 1) W H
  have HP := hide (fun (W : World) (H : Rq W b (nN t 1)) => H)
  generalize nX t 1 = N at *
  generalize nN t 1 = t1 at *
  have hw := nat_i64 N (by omega)
  go_enter Try.func57, Try.ntmps57
  go_wp2_with fail
  refine hc.mono ?_
  rintro y w1 ⟨rfl, hR1, hg1⟩
  have hV1 := hV.kept hg1 (by simp; omega)
  have hg01 : w.grownBy w1 (some b) := grown_trans (grown_none9 hga) hg1 (.inl rfl)
  have hq1 := hV1.lt
  have hgb := World.grownBy_alloc w1 (.cells #[.int .i64 N, .int .i64 0, .string ⟨#[]⟩] 24) none
  have hR2 := hR1.kept hgb (by simp)
  have hV2 := hV1.kept hgb (by simp)
  have hM2 : Vb (w1.alloc (.cells #[.int .i64 N, .int .i64 0, .string ⟨#[]⟩] 24)) w1.heap.size ⟨N, 0, ⟨#[]⟩⟩ := Vb.new w1 ⟨N, 0, ⟨#[]⟩⟩
  have hg02 := grown_trans hg01 (grown_none9 (row := some b) hgb) (.inl rfl)
  have hb1 := hR1.lt
  obtain ⟨q, HQ⟩ : ∃ q, Hid (w.heap.size = q) := ⟨_, rfl⟩
  have hqq := HQ.out
  rw [hqq] at hV2 hq1
  have c0 := hM2.c0
  dsimp only at c0
  clear hc hV hV1 hga h0 hgb hR1 hg01 hg1
  go_upto_region 2 with fail
  generalize w1.alloc (.cells #[.int .i64 N, .int .i64 0, .string ⟨#[]⟩] 24) = W2 at *
  by_cases e1 : N = 1
  · subst e1
    rw [if_pos rfl] at Hv Hn
    go_wp2_with fail
    refine (hc2 _ hR2).mono ?_
    rintro y w3 ⟨rfl, hR3, hg3⟩
    have hV3 := hV2.kept hg3 (by simp; omega)
    have hM3 := hM2.kept hg3 (by simp; omega)
    have hg03 := grown_trans hg02 hg3 (.inl rfl)
    obtain ⟨mm, HM⟩ : ∃ mm : Int, Hid (wrap64 (nX t1 8 : Int) = mm) := ⟨_, rfl⟩
    obtain ⟨t3, HT⟩ : ∃ t3, Hid (nN t1 8 = t3) := ⟨_, rfl⟩
    rw [HT.out] at hR3
    have hM4 := hM3.set1 mm
    have hsg := grown_set9 w3 w1.heap.size 1 (.int .i64 mm)
    have hV4 := hV3.kept hsg (by simp; omega)
    have hR4 := hR3.kept hsg (by simp; omega)
    have hg04 := grown_new hg03 hsg (fun j e => by cases e; omega)
    have z1 := hM3.fz 1
    have k0 : w3.cell? ⟨w1.heap.size, 0, none⟩ = some (.int .i64 1) := hM3.c0
    have k2 := hM3.c2
    have j0 := hV3.c0; have j1 := hV3.c1; have j2 := hV3.c2
    have g0 := hV3.fz 0; have g1 := hV3.fz 1; have g2 := hV3.fz 2
    dsimp only at k2 j0 j1 j2
    have k1 := hM3.c1
    have m0 : (w3.setCell ⟨w1.heap.size, 1, none⟩ (.int .i64 mm)).cell? ⟨w1.heap.size, 0, none⟩ = some (.int .i64 1) := hM4.c0
    have m1 := hM4.c1; have m2 := hM4.c2
    have f0 := hV4.fz 0; have f1 := hV4.fz 1; have f2 := hV4.fz 2
    have y0 := hV4.c0; have y1 := hV4.c1; have y2 := hV4.c2
    dsimp only at k1 m1 m2 y0 y1 y2
    have hE := vend9 ⟨1, mm, ⟨#[]⟩⟩ hR4 hV4 hg04 (by omega) (by omega)
    clear hV2 hV3 hM2 hM3 hM4 hR3 hR2 hg02 hg03 hsg c0
    generalize w1.heap.size = m at *
    go_wp2_with fail
    rw [HM.out]
    go_wp2_with fail
    refine bodyPost_ret (results_v9 rfl _ q _ ⟨1, mm, ⟨#[]⟩⟩ rfl hE.1) rfl ?_
    refine ⟨?_, ?_, hE.2.2⟩
    · rw [Hv.out, HM.out]; rfl
    · rw [Hn.out, HT.out]; exact hE.2.1
  · by_cases e2 : N = 2
    · subst e2
      rw [if_neg (by decide), if_pos rfl] at Hv Hn
      go_wp2_with fail
      refine (hc3 _ hR2).mono ?_
      rintro y w3 ⟨rfl, hR3, hg3⟩
      have hV3 := hV2.kept hg3 (by simp; omega)
      have hM3 := hM2.kept hg3 (by simp; omega)
      have hg03 := grown_trans hg02 hg3 (.inl rfl)
      generalize sX t1 = S at *
      obtain ⟨t3, HT⟩ : ∃ t3, Hid (sN t1 = t3) := ⟨_, rfl⟩
      rw [HT.out] at hR3
      have hM4 := hM3.set2 S
      have hsg := grown_set9 w3 w1.heap.size 2 (.string S)
      have hV4 := hV3.kept hsg (by simp; omega)
      have hR4 := hR3.kept hsg (by simp; omega)
      have hg04 := grown_new hg03 hsg (fun j e => by cases e; omega)
      have z1 := hM3.fz 2
      have k1 := hM3.c2
      have m0 : (w3.setCell ⟨w1.heap.size, 2, none⟩ (.string S)).cell? ⟨w1.heap.size, 0, none⟩ = some (.int .i64 2) := hM4.c0
      have m1 := hM4.c1; have m2 := hM4.c2
      have f0 := hV4.fz 0; have f1 := hV4.fz 1; have f2 := hV4.fz 2
      have y0 := hV4.c0; have y1 := hV4.c1; have y2 := hV4.c2
      dsimp only at k1 m1 m2 y0 y1 y2
      have hE := vend9 ⟨2, 0, S⟩ hR4 hV4 hg04 (by omega) (by omega)
      clear hV2 hV3 hM2 hM3 hM4 hR3 hR2 hg02 hg03 hsg c0
      generalize w1.heap.size = m at *
      go_wp2_with fail
      refine bodyPost_ret (results_v9 rfl _ q _ ⟨2, 0, S⟩ rfl hE.1) rfl ?_
      refine ⟨?_, ?_, hE.2.2⟩
      · rw [Hv.out]
      · rw [Hn.out, HT.out]; exact hE.2.1
    · rw [if_neg e1, if_neg e2] at Hv Hn
      have e1' : ((N : Int) == 1) = false := by rw [beq_eq_false_iff_ne]; omega
      have e2' : ((N : Int) == 2) = false := by rw [beq_eq_false_iff_ne]; omega
      have m1 := hM2.c1; have m2 := hM2.c2
      have f0 := hV2.fz 0; have f1 := hV2.fz 1; have f2 := hV2.fz 2
      have y0 := hV2.c0; have y1 := hV2.c1; have y2 := hV2.c2
      dsimp only at m1 m2 y0 y1 y2
      have hE := vend9 ⟨N, 0, ⟨#[]⟩⟩ hR2 hV2 hg02 (by omega) (by omega)
      clear hV2 hM2 hR2 hg02 e1 e2
      go_wp2_with fail
      go_wp2_with fail
      refine bodyPost_ret (results_v9 rfl _ q _ ⟨N, 0, ⟨#[]⟩⟩ rfl hE.1) rfl ?_
      refine ⟨?_, ?_, hE.2.2⟩
      · rw [Hv.out]; rfl
      · rw [Hn.out]; exact hE.2.1
end Go.Proofs.Ytamgnpmkmlhadaa
