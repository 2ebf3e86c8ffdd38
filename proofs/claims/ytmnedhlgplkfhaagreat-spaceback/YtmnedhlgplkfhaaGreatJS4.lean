/- Contracts, over the turned program: the small functions of the laws of package space. Conditions: those that each theorem states. -/
import Derived.Test.YtmnedhlgplkfhaaGreatJS3
import Derived.Test.YtmnedhlgplkfhaaGreatJK2
import Derived.Test.YtmnedhlgplkfhaaGreatJK3
namespace Go.Proofs.YtmnedhlgplkfhaaGreat
open Go.RowKit
set_option linter.unusedVariables false

set_option maxHeartbeats 400000 in
theorem spages_any (n : Int) (w : World) : Calls Tryz.prog 9 #[.int .i64 n] w fun e w' => e = .returned (.int .i64 (pagesN n : Int)) ∧ w' = w := by
  go_enter Tryz.func9, Tryz.ntmps9
  go_wp2
  go_ret
  refine ⟨reti ?_, rfl⟩
  have e : IntKind.u64.wrap n = n % 18446744073709551616 := by rfl
  rw [e, Int.tmod_eq_emod_of_nonneg (by omega)]
  unfold pagesN wrap64
  omega
theorem searly_any (a : Option Addr) (n c : Nat) (w : World) (h1 : n ≤ c) (h2 : c ≤ maxLen) : Calls Tryz.prog 10 #[.slice a n c] w fun e w' => e = .returned (.slice a (min n 200) c) ∧ w' = w := by
  unfold maxLen at h2
  have e1 : (min (n : Int) 200).toNat = min n 200 := by omega
  go_enter Tryz.func10, Tryz.ntmps10
  go_wp2
  go_ret
  refine ⟨?_, rfl⟩
  first | rfl | (rw [← e1]; rfl)
/-- A step: its kind, a page or a note, a byte. -/
structure Sop where
  k : Int
  n : Int
  b : UInt8
def Sop.cells (o : Sop) : Array Value := #[.int .i64 o.k, .int .i64 o.n, .int .u8 (o.b.toNat : Int)]
def Sop.kind (o : Sop) : Int := o.k % 8
theorem Sop.kinds (o : Sop) : o.kind = 0 ∨ o.kind = 1 ∨ o.kind = 2 ∨ o.kind = 3 ∨ o.kind = 4 ∨ o.kind = 5 ∨ o.kind = 6 ∨ o.kind = 7 := by unfold Sop.kind; omega
set_option maxRecDepth 100000 in
set_option maxHeartbeats 400000 in
theorem skind_any (o : Sop) (w : World) : Calls Tryz.prog 20 #[.agg o.cells] w fun e w' => e = .returned (.int .i64 o.kind) ∧ Kp none' w w' := by
  unfold Sop.cells
  have hk := Kp.alloc none' w (.cells #[.int .i64 o.k, .int .i64 o.n, .int .u8 (o.b.toNat : Int)] 31)
  go_enter Tryz.func20, Tryz.ntmps20
  go_wp2
  go_ret
  refine ⟨reti ?_, hk⟩
  unfold Sop.kind
  have e : IntKind.u64.wrap o.k = o.k % 18446744073709551616 := by rfl
  rw [e, Int.tmod_eq_emod_of_nonneg (by omega)]
  unfold wrap64
  omega
/-- So many bytes of one kind. -/
def fillN (c : UInt8) (n : Nat) : ByteArray := ⟨(List.replicate n c).toArray⟩
theorem fillN_size (c : UInt8) (n : Nat) : (fillN c n).size = n := by
  show (List.replicate n c).toArray.size = n
  simp
set_option maxRecDepth 100000 in
set_option maxHeartbeats 400000 in
theorem sfill_any (c : UInt8) (n : Nat) (w : World) (hn : n ≤ 1000) : Calls Tryz.prog 35 #[.int .u8 (c.toNat : Int), .int .i64 (n : Int)] w fun e w' => e = .returned (.string (fillN c n)) ∧ Kp none' w w' := by
  obtain ⟨wa, hmk, hO, hka⟩ := make_bytes w n hn
  obtain ⟨g, HG⟩ : ∃ g, Hid (w.heap.size = g) := ⟨_, rfl⟩
  rw [HG.out] at hmk hO
  go_enter Tryz.func35, Tryz.ntmps35
  go_upto_region 3 with (at_make; refine wpList_make_at rfl (.tmp 7) (.tmp 7) 98 rfl _ _ rfl rfl hmk ?_)
  clear hmk
  go_loopw [6] (fun t wr => ∃ k : Nat, k ≤ n ∧ t = .int .i64 k ∧ Own 5 wr g (.slice (some ⟨g, 0, none⟩) n n) (List.replicate k c ++ List.replicate (n - k) 0) ∧ Kp none' w wr) (fun t _ => n - (intOf t).toNat)
  case atStart => exact ⟨0, Nat.zero_le _, rfl, hO, hka⟩
  case round =>
    obtain ⟨k, hk, rfl, hOr, hK⟩ := hrel
    clear hO hka
    by_cases hlt : k < n
    · have hki : (k : Int) < (n : Int) := by omega
      obtain ⟨m, hm⟩ : ∃ m, n - k = m + 1 := ⟨n - k - 1, by omega⟩
      have Hm : Hid (n - (k + 1) = m) := by show _ = _; omega
      rw [hm] at hOr
      have hcl := hOr.cellAt k (by rw [List.length_append, List.length_replicate, List.length_replicate]; omega)
      have q1 := hcl.1
      have q2 := hcl.2
      have hst := hOr.stored k c
      rw [set_nextU] at hst
      have HST := hide hst
      clear hcl hst hOr hm
      go_wp2
      go_roundw
      case rel => exact ⟨k + 1, by omega, by go_num, by rw [Hm.out]; exact HST.out.1, hK.trans (Kp.ofGrown HST.out.2 (S := only g) (fun k he _ => by cases he; rfl)) (fun _ _ h => h) (fun k hk he => absurd hk (by have := HG.out; unfold only at he; omega))⟩
      case measure => simp [intOf]; omega
    · obtain rfl : k = n := by omega
      have hcv := run_convert_own (P := Tryz.prog) wr 98 9 5 Tryz.underlying98 Tryz.underlying5 Tryz.underlying9 hOr
      rw [show List.replicate k c ++ List.replicate (k - k) 0 = List.replicate k c by simp, show (⟨(List.replicate k c).toArray⟩ : ByteArray) = fillN c k from rfl] at hcv
      obtain ⟨Z, HZ⟩ : ∃ Z, Hid (fillN c k = Z) := ⟨_, rfl⟩
      rw [HZ.out] at hcv
      clear hOr
      go_wp2
      go_ret
      exact ⟨by rw [HZ.out]; rfl, hK⟩
set_option maxRecDepth 100000 in
set_option maxHeartbeats 800000 in
theorem sfresh_any (n : Nat) (w : World) (h1 : 1 ≤ n) (h2 : n ≤ 160) :
    Calls Tryz.prog 32 #[.int .i64 (n : Int)] w fun e w' => ∃ (q : Cq) (D : Dv), e = .returned (.pointer (some ⟨q.c, 0, none⟩)) ∧ q.n = n ∧ q.sz = 4 ∧ D.st = false ∧ Cas w' q (fun k => w.heap.size ≤ k) D (fun _ => fillB 0) 0 0 [] 0 0 ∧ Kp none' w w' := by
  have HW : Hid (wrap64 (126 + 4 * (n : Int)) = 126 + 4 * (n : Int)) := by show _ = _; unfold wrap64; omega
  have HO : Hid (∀ (w1 : World) (p : Dp), Dev w1 p (fresh (newN (126 + 4 * (n : Int)))) → Calls Tryz.prog 58 #[.pointer (some ⟨p.d, 0, none⟩), .int .i64 (n : Int)] w1 fun e w' => ∃ g, e = .returned (.tuple #[.pointer (some ⟨g, 0, none⟩), .int .i64 0]) ∧ Rest w' p (fresh (126 + 4 * n)) n (fun _ => fillB 0) 0 ∧ Pag w' g p n 0 (.slice none 0 0) [] ∧ w1.heap.size ≤ g ∧ Kp p.mem w1 w') := fun w1 p hD => rest_open (rest_new h2 hD) (by omega) h1 h2
  go_enter Tryz.func32, Tryz.ntmps32
  go_wp2_with (first
    | (go_at_call 60; refine (need_any _ _).mono ?_; rintro e w' ⟨rfl, rfl⟩; rw [HW.out])
    | (go_at_call 59; refine (new_any _ _).mono ?_; rintro e w1 ⟨p, rfl, hD1, hk1, hm1⟩)
    | (go_at_call 58; refine (HO.out w1 p hD1).mono ?_; rintro e w2 ⟨g, rfl, hR2, hP2, hg2, hk2⟩)
    | (go_at_call 61; refine (cnew_any 4 hR2 rfl hP2 (by omega) (fun _ => fillB_size 0)).mono ?_; rintro e w3 ⟨q, rfl, hq1, hq2, hq3, hq4, hC3, hk3⟩)
    | fail)
  go_ret
  have hkN := kpN hk1 hk2 hm1
  refine ⟨q, _, rfl, hq1, by rw [hq2]; rfl, rfl, hC3.mono (fun k _ hk => ?_), hkN.then hk3⟩
  have hs1 := hk1.size
  have hs2 := hkN.size
  rcases hk with h | h | h
  · exact hm1 k h
  · omega
  · omega

end Go.Proofs.YtmnedhlgplkfhaaGreat
