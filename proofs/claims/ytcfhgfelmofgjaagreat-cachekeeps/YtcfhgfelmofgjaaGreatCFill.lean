/- Contracts, over the turned program: the laws' fill; a commit of one page. Conditions: those that each theorem states. -/
import Derived.Test.YtcfhgfelmofgjaaGreatCCommit
namespace Go.Proofs.YtcfhgfelmofgjaaGreat
open Go.RowKit
set_option linter.unusedVariables false

set_option maxRecDepth 100000 in
set_option maxHeartbeats 400000 in
theorem cfill_any (c : UInt8) (w : World) : Calls Tryz.prog 11 #[.int .u8 (c.toNat : Int)] w fun e w' => e = .returned (.string (fillB c)) ∧ Kp none' w w' := by
  obtain ⟨wa, hmk, hO, hka⟩ := make_page w
  obtain ⟨g, HG⟩ : ∃ g, Hid (w.heap.size = g) := ⟨_, rfl⟩
  rw [HG.out] at hmk hO
  go_enter Tryz.func11, Tryz.ntmps11
  go_upto_region 3 with (at_make; refine wpList_make_at rfl (.const (.int .i64 256)) (.const (.int .i64 256)) 30 rfl _ _ rfl rfl hmk ?_)
  clear hmk
  go_loopw [4] (fun t wr => ∃ k : Nat, k ≤ 256 ∧ t = .int .i64 k ∧ Own 5 wr g (.slice (some ⟨g, 0, none⟩) 256 256) (List.replicate k c ++ List.replicate (256 - k) 0) ∧ Kp none' w wr) (fun t _ => 256 - (intOf t).toNat)
  case atStart => exact ⟨0, Nat.zero_le _, rfl, hO, hka⟩
  case round =>
    obtain ⟨k, hk, rfl, hOr, hK⟩ := hrel
    clear hO hka
    by_cases hlt : k < 256
    · have hki : (k : Int) < 256 := by omega
      obtain ⟨m, hm⟩ : ∃ m, 256 - k = m + 1 := ⟨256 - k - 1, by omega⟩
      have Hm : Hid (256 - (k + 1) = m) := by show _ = _; omega
      rw [hm] at hOr
      have hcl := hOr.cellAt k (by rw [List.length_append, List.length_replicate, List.length_replicate]; omega)
      have q1 := hcl.1
      have q2 := hcl.2
      have hst := hOr.stored k c
      rw [set_nextU] at hst
      have HST := hide hst
      clear hcl hst hOr
      go_wp2
      go_roundw
      case rel => exact ⟨k + 1, by omega, by go_num, by rw [Hm.out]; exact HST.out.1, hK.trans (Kp.ofGrown HST.out.2 (S := only g) (fun k he _ => by cases he; rfl)) (fun _ _ h => h) (fun k hk he => absurd hk (by have := HG.out; unfold only at he; omega))⟩
      case measure => simp [intOf]; omega
    · obtain rfl : k = 256 := by omega
      have hcv := run_convert_own (P := Tryz.prog) wr 30 9 5 Tryz.underlying30 Tryz.underlying5 Tryz.underlying9 hOr
      rw [show List.replicate 256 c ++ List.replicate (256 - 256) 0 = List.replicate 256 c by simp, show (⟨(List.replicate 256 c).toArray⟩ : ByteArray) = fillB c from rfl] at hcv
      obtain ⟨Z, HZ⟩ : ∃ Z, Hid (fillB c = Z) := ⟨_, rfl⟩
      rw [HZ.out] at hcv
      clear hOr
      go_wp2
      go_ret
      exact ⟨by rw [HZ.out]; rfl, hK⟩
theorem commit_one {w : World} {q : Cq} {F : Nat → Prop} {D : Dv} {Q : Nat → ByteArray} {M cm : Int} {s : St} {B : Nat} {z : Int} {X : ByteArray} (H : Cst w q F D Q M cm s) (hM : M ≤ 900000) (h0 : 0 ≤ cm) (h1 : cm ≤ 1000000) (c0 : w.cell? ⟨B, 0, none⟩ = some (.int .i64 z)) (c1 : w.cell? ⟨B, 1, none⟩ = some (.string X)) (hB : ¬ F B)
    (hz : -9223372036854775808 ≤ z ∧ z < 9223372036854775808) (hX : X.size = 256) :
    Calls Tryz.prog 10 #[.pointer (some ⟨q.c, 0, none⟩), .slice (some ⟨B, 0, none⟩) 1 1] w fun e w' => ∃ D' c', e = .returned (.int .i64 (rdCE q.n z)) ∧ Cst w' q F D' (if inR q.n z then withC Q [⟨z, X⟩] else Q) (M + 300) c' s ∧ Kp F w w' ∧ cm ≤ c' ∧ c' ≤ cm + 1 := by
  have hS : Chs (fun k => ¬ F k) w (.slice (some ⟨B, 0, none⟩) 1 1) [⟨z, X⟩] := by
    refine ⟨some ⟨B, 0, none⟩, 1, rfl, Nat.le_refl _, by unfold maxLen; omega, fun i hi => ⟨B, 0, rfl, hB, lt_of_cell c0, ?_⟩⟩
    have : i = 0 := by simpa using hi
    subst this
    exact ⟨c0, c1⟩
  have hd : ∀ c ∈ [(⟨z, X⟩ : Chg)], c.data.size = 256 := by simpa using hX
  have hi : i64s ([(⟨z, X⟩ : Chg)].map Chg.page) := by simpa [i64s] using hz
  have hr := rightE_one q.n ⟨z, X⟩
  unfold rdCE
  by_cases hin : inR q.n z = true
  · rw [if_pos hin, if_pos hin]
    rw [if_pos (show inR q.n (⟨z, X⟩ : Chg).page = true from hin)] at hr
    exact ccommit_ok H hM hS hd hi h0 h1 hr
  · rw [if_neg hin, if_neg hin]
    rw [if_neg (show ¬ inR q.n (⟨z, X⟩ : Chg).page = true from hin)] at hr
    have := ccommit_no H hM hS hd hi h0 h1 (by rw [hr]; omega)
    rw [hr] at this
    refine this.mono ?_
    rintro e w' ⟨D', rfl, a1, a2⟩
    exact ⟨D', cm, rfl, a1, a2, Int.le_refl _, by omega⟩
theorem make_bytes (w : World) (n : Nat) (hn : n ≤ 1000) : ∃ wa, (Instr.makeSlice 30 (.int .i64 (n : Int)) (.int .i64 (n : Int))).run Tryz.prog w = .ok (.slice (some ⟨w.heap.size, 0, none⟩) n n) wa ∧ Own 5 wa w.heap.size (.slice (some ⟨w.heap.size, 0, none⟩) n n) (List.replicate n 0) ∧ Kp none' w wa := by
  obtain ⟨i0, hi, hz0, hz1, hz2⟩ := info_parts infoU8
  obtain ⟨wa, hmk, hOa, hga⟩ := run_make_full (P := Tryz.prog) w w.heap.size 30 5 i0 _ 1 Tryz.underlying30 hi hz0 hz1 .i64 .i64 n (by rw [hz2]; omega) (by unfold maxLen; omega) (Nat.le_refl _)
  refine ⟨wa, hmk, ?_, Kp.ofN hga _⟩
  have e : (madeCells (Value.int .u8 0).cells (n * 1)).toList = bcs (List.replicate n 0) := by
    show (madeCells #[Value.int .u8 0] (n * 1)).toList = _
    rw [toList_madeCells_one]
    unfold bcs
    rw [List.map_replicate, Nat.mul_one]
    rfl
  unfold Own
  rw [List.length_replicate, ← e]
  exact hOa
theorem Own.keptK {e : TypeId} {w w' : World} {base : Nat} {v : Value} {l : List UInt8} {S : Nat → Prop} (h : Own e w base v l) (hk : Kp S w w') (hS : ∀ k, v.ownBlock = some k → ¬ S k) : Own e w' base v l := prow_kept h hk hS
theorem M_le {w : World} {q : Cq} {F : Nat → Prop} {D : Dv} {Q : Nat → ByteArray} {M M' cm : Int} {s : St} (H : Cst w q F D Q M cm s) (h : M ≤ M') : Cst w q F D Q M' cm s := by
  obtain ⟨L, N, T, h1, h2, h3, h4⟩ := H
  exact ⟨L, N, T, ⟨h1.hR.less h, h1.st, h1.hP, h1.cc, h1.rg, h1.mc, h1.nd, h1.da, h1.s1, h1.s2, h1.s3, h1.s4, h1.n2, h1.hQ, h1.sm⟩, h2, h3, h4⟩
/-- How many pages. -/
def pgN (n : Int) : Nat := 1 + (n % 18446744073709551616 % 30).toNat
theorem pgN_le (n : Int) : 1 ≤ pgN n ∧ pgN n ≤ 30 := by unfold pgN; omega
theorem pgN_wrap (n0 : Int) : Hid (wrap64 (1 + wrap64 ((IntKind.u64.wrap n0).tmod 30)) = (pgN n0 : Int)) := by
  show _ = _
  have hu : IntKind.u64.wrap n0 = n0 % 18446744073709551616 := by simp [IntKind.wrap, IntKind.bits, IntKind.signed]
  have h0 : 0 ≤ n0 % 18446744073709551616 := by omega
  rw [hu, Int.tmod_eq_emod_of_nonneg h0]
  unfold wrap64 pgN
  omega
/-- Pages of one byte each. -/
def pgs1 (P : List UInt8) : Nat → ByteArray := fun p => fillB (P.getD p 0)
theorem pgs1_new (n : Nat) : (fun _ => fillB 0) = pgs1 (List.replicate n 0) := by
  funext p
  unfold pgs1
  rw [List.getD_eq_getElem?_getD, List.getElem?_replicate]
  split <;> rfl
theorem pgs1_size (P : List UInt8) : ∀ p, (pgs1 P p).size = 256 := fun p => fillB_size _
theorem pgs1_set (P : List UInt8) (k : Nat) (b : UInt8) (hk : k < P.length) : withC (pgs1 P) [⟨(k : Int), fillB b⟩] = pgs1 (P.set k b) := by
  funext p
  show (if (p : Int) = (k : Int) then fillB b else pgs1 P p) = _
  unfold pgs1
  rw [List.getD_eq_getElem?_getD, List.getD_eq_getElem?_getD, List.getElem?_set]
  by_cases e : p = k
  · subst e
    simp [hk]
  · rw [if_neg (by omega), if_neg (fun h => e h.symm)]

end Go.Proofs.YtcfhgfelmofgjaaGreat
