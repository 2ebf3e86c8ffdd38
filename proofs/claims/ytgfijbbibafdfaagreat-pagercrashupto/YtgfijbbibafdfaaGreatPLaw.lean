/- Contracts, over the turned program: the laws' fill and pages; the document's Zero, New, Right, With, Calls; same. Conditions: those that each theorem states. -/
import Derived.Test.YtgfijbbibafdfaaGreatPRead
import Derived.Test.YtgfijbbibafdfaaGreatPBack
import Derived.Deep.RegionLaw
namespace Go.Proofs.YtgfijbbibafdfaaGreat
open Go.RowKit
set_option linter.unusedVariables false

/-- A page of one byte. -/
def fillB (c : UInt8) : ByteArray := ⟨(List.replicate 256 c).toArray⟩
theorem fillB_size (c : UInt8) : (fillB c).size = 256 := by
  show (List.replicate 256 c).toArray.size = 256
  rw [List.size_toArray, List.length_replicate]
theorem make_page (w : World) : ∃ wa, (Instr.makeSlice 39 (.int .i64 256) (.int .i64 256)).run Tryz.prog w = .ok (.slice (some ⟨w.heap.size, 0, none⟩) 256 256) wa ∧ Own 5 wa w.heap.size (.slice (some ⟨w.heap.size, 0, none⟩) 256 256) (List.replicate 256 0) ∧ Kp none' w wa := by
  obtain ⟨i0, hi, hz0, hz1, hz2⟩ := info_parts infoU8
  obtain ⟨wa, hmk, hOa, hga⟩ := run_make_full (P := Tryz.prog) w w.heap.size 39 5 i0 _ 1 Tryz.underlying39 hi hz0 hz1 .i64 .i64 256 (by rw [hz2]; omega) (by unfold maxLen; omega) (Nat.le_refl _)
  refine ⟨wa, hmk, ?_, Kp.ofN hga _⟩
  have e : (madeCells (Value.int .u8 0).cells (256 * 1)).toList = bcs (List.replicate 256 0) := by
    show (madeCells #[Value.int .u8 0] (256 * 1)).toList = _
    rw [toList_madeCells_one]
    unfold bcs
    rw [List.map_replicate]
    rfl
  unfold Own
  rw [List.length_replicate, ← e]
  exact hOa
set_option maxRecDepth 100000 in
set_option maxHeartbeats 400000 in
theorem zero_any (w : World) : Calls Tryz.prog 25 #[] w fun e w' => e = .returned (.string (fillB 0)) ∧ Kp none' w w' := by
  obtain ⟨wa, hmk, hO, hka⟩ := make_page w
  obtain ⟨g, HG⟩ : ∃ g, Hid (w.heap.size = g) := ⟨_, rfl⟩
  rw [HG.out] at hmk hO
  have hcv := run_convert_own (P := Tryz.prog) wa 39 9 5 Tryz.underlying39 Tryz.underlying5 Tryz.underlying9 hO
  obtain ⟨Z, HZ⟩ : ∃ Z, Hid (fillB 0 = Z) := ⟨_, rfl⟩
  rw [show (⟨(List.replicate 256 (0 : UInt8)).toArray⟩ : ByteArray) = fillB 0 from rfl, HZ.out] at hcv
  rw [HZ.out]
  clear hO
  go_enter Tryz.func25, Tryz.ntmps25
  go_wp2_with (at_make; refine wpList_make_at rfl (.const (.int .i64 256)) (.const (.int .i64 256)) 39 rfl _ _ rfl rfl hmk ?_)
  go_ret
  exact ⟨rfl, hka⟩
theorem set_nextU (c : UInt8) (k m : Nat) : (List.replicate k c ++ List.replicate (m + 1) 0).set k c = List.replicate (k + 1) c ++ List.replicate m 0 := by
  have hl : (List.replicate k c).length = k := List.length_replicate
  rw [List.set_append_right _ _ (by omega), hl, Nat.sub_self, List.replicate_succ, List.set_cons_zero, List.replicate_succ' , List.append_assoc]
  rfl
set_option maxRecDepth 100000 in
set_option maxHeartbeats 400000 in
theorem fill_any (c : UInt8) (w : World) : Calls Tryz.prog 19 #[.int .u8 (c.toNat : Int)] w fun e w' => e = .returned (.string (fillB c)) ∧ Kp none' w w' := by
  obtain ⟨wa, hmk, hO, hka⟩ := make_page w
  obtain ⟨g, HG⟩ : ∃ g, Hid (w.heap.size = g) := ⟨_, rfl⟩
  rw [HG.out] at hmk hO
  go_enter Tryz.func19, Tryz.ntmps19
  go_upto_region 3 with (at_make; refine wpList_make_at rfl (.const (.int .i64 256)) (.const (.int .i64 256)) 39 rfl _ _ rfl rfl hmk ?_)
  clear hmk
  go_loopw [4] (fun t wr => ∃ k : Nat, k ≤ 256 ∧ t = .int .i64 k ∧ Own 5 wr g (.slice (some ⟨g, 0, none⟩) 256 256) (List.replicate k c ++ List.replicate (256 - k) 0) ∧ Kp none' w wr) (fun t _ => 256 - (intOf t).toNat)
  case atStart => exact ⟨0, Nat.zero_le _, rfl, hO, hka⟩
  case round =>
    obtain ⟨k, hk, rfl, hOr, hK⟩ := hrel
    clear hO hka
    by_cases hlt : k < 256
    · have hki : (k : Int) < 256 := by omega
      obtain ⟨m, hm⟩ : ∃ m, 256 - k = m + 1 := ⟨256 - k - 1, by omega⟩
      have Hm : Hid (256 - (k + 1) = m) := by show _ = _; omega
      rw [hm] at hOr
      have hcl := hOr.cellAt k (by rw [List.length_append, List.length_replicate, List.length_replicate]; omega)
      have q1 := hcl.1
      have q2 := hcl.2
      have hst := hOr.stored k c
      rw [set_nextU] at hst
      have HST := hide hst
      clear hcl hst hOr
      go_wp2
      go_roundw
      case rel => exact ⟨k + 1, by omega, by go_num, by rw [Hm.out]; exact HST.out.1, hK.trans (Kp.ofGrown HST.out.2 (S := only g) (fun k he _ => by cases he; rfl)) (fun _ _ h => h) (fun k hk he => absurd hk (by have := HG.out; unfold only at he; omega))⟩
      case measure => simp [intOf]; omega
    · obtain rfl : k = 256 := by omega
      have hcv := run_convert_own (P := Tryz.prog) wr 39 9 5 Tryz.underlying39 Tryz.underlying5 Tryz.underlying9 hOr
      rw [show List.replicate 256 c ++ List.replicate (256 - 256) 0 = List.replicate 256 c by simp, show (⟨(List.replicate 256 c).toArray⟩ : ByteArray) = fillB c from rfl] at hcv
      obtain ⟨Z, HZ⟩ : ∃ Z, Hid (fillB c = Z) := ⟨_, rfl⟩
      rw [HZ.out] at hcv
      clear hOr
      go_wp2
      go_ret
      exact ⟨by rw [HZ.out]; rfl, hK⟩
/-- How many pages. -/
def pagesN (n : Int) : Nat := 1 + (n % 18446744073709551616 % 40).toNat
theorem pagesN_le (n : Int) : 1 ≤ pagesN n ∧ pagesN n ≤ 40 := by unfold pagesN; omega
set_option maxHeartbeats 400000 in
theorem pages_any (n : Int) (w : World) : Calls Tryz.prog 5 #[.int .i64 n] w fun e w' => e = .returned (.int .i64 (pagesN n : Int)) ∧ w' = w := by
  go_enter Tryz.func5, Tryz.ntmps5
  go_wp2
  go_ret
  refine ⟨reti ?_, rfl⟩
  have e : IntKind.u64.wrap n = n % 18446744073709551616 := by rfl
  rw [e, Int.tmod_eq_emod_of_nonneg (by omega)]
  unfold pagesN wrap64
  omega
/-- How many calls a commit takes. -/
def callsN (n : Nat) : Nat := if n = 0 then 0 else 8 * n + 7
/-- Texts that lie in blocks of S. -/
def Txs (S : Nat → Prop) (w : World) (v : Value) (Q : List ByteArray) : Prop :=
  ∃ a c, v = .slice a Q.length c ∧ Q.length ≤ c ∧ c ≤ maxLen ∧ ∀ i (h : i < Q.length), ∃ b off, a = some ⟨b, off, none⟩ ∧ S b ∧ b < w.heap.size ∧ w.cell? ⟨b, off + i, none⟩ = some (.string Q[i])
theorem Txs.kept {S T : Nat → Prop} {w w' : World} {v : Value} {l : List ByteArray} (h : Txs S w v l) (hk : Kp T w w') (hS : ∀ k, S k → ¬ T k) : Txs S w' v l := by
  obtain ⟨a, c, rfl, h1, h2, h3⟩ := h
  refine ⟨a, c, rfl, h1, h2, fun i hi => ?_⟩
  obtain ⟨b, off, rfl, hb, hl, c0⟩ := h3 i hi
  exact ⟨b, off, rfl, hb, Nat.lt_of_lt_of_le hl hk.size, hk.cell c0 (hS b hb)⟩
theorem Txs.mono {S T : Nat → Prop} {w : World} {v : Value} {l : List ByteArray} (h : Txs S w v l) (hS : ∀ k, k < w.heap.size → S k → T k) : Txs T w v l := by
  obtain ⟨a, c, rfl, h1, h2, h3⟩ := h
  refine ⟨a, c, rfl, h1, h2, fun i hi => ?_⟩
  obtain ⟨b, off, rfl, hb, hl, c0⟩ := h3 i hi
  exact ⟨b, off, rfl, hS b hl hb, hl, c0⟩
theorem Ow.txs {w : World} {base : Nat} {v : Value} {l : List ByteArray} (h : Ow Value.string 9 w base v l) : Txs (fun k => base ≤ k) w v l := by
  have h' := h
  rcases h.2 with ⟨rfl, h0⟩ | ⟨g, cap, cur, rfl, hb, hg, h1, h2, _⟩
  · have : l = [] := List.eq_nil_of_length_eq_zero h0
    subst this
    exact ⟨none, 0, rfl, Nat.le_refl _, Nat.zero_le _, fun i h => absurd h (by simp)⟩
  · refine ⟨some ⟨g, 0, none⟩, cap, rfl, h1, h2, fun j hj => ⟨g, 0, rfl, hb, (Array.getElem?_eq_some_iff.1 hg).1, ?_⟩⟩
    have hc := World.ownsRow.cellAt (g := g) (cap := cap) h' j (by omega)
    rw [Nat.zero_add, hc]
    simp [hj]
/-- The document's pages, in blocks of S. -/
structure Pgl (S : Nat → Prop) (w : World) (r : Nat) (Q : List ByteArray) : Prop where
  i : ∃ lv, w.cell? ⟨r, 0, none⟩ = some lv ∧ Txs S w lv Q
  r : S r
theorem Pgl.kept {S T : Nat → Prop} {w w' : World} {r : Nat} {Q : List ByteArray} (h : Pgl S w r Q) (hk : Kp T w w') (hS : ∀ k, S k → ¬ T k) : Pgl S w' r Q := by
  obtain ⟨lv, h1, h2⟩ := h.i
  exact ⟨⟨lv, hk.cell h1 (hS r h.r), h2.kept hk hS⟩, h.r⟩
theorem Pgl.keptN {S : Nat → Prop} {w w' : World} {r : Nat} {Q : List ByteArray} (h : Pgl S w r Q) (hk : Kp none' w w') : Pgl S w' r Q := h.kept hk (fun _ _ h => h)
theorem Pgl.mono {S T : Nat → Prop} {w : World} {r : Nat} {Q : List ByteArray} (h : Pgl S w r Q) (hS : ∀ k, k < w.heap.size → S k → T k) : Pgl T w r Q := by
  obtain ⟨lv, h1, h2⟩ := h.i
  exact ⟨⟨lv, h1, h2.mono hS⟩, hS r (lt_of_cell h1) h.r⟩

theorem bytes_eq {x y : ByteArray} (h : x.toList = y.toList) : x = y := by
  rw [ByteArray.toList_eq, ByteArray.toList_eq] at h
  exact ByteArray.ext (Array.toList_inj.1 h)
/-- Has a pager just these pages? -/
def sameB (D : Dv) (bl : List Chg) (Q : List ByteArray) : Bool := decide (∀ i (h : i < Q.length), rdP D bl i = Q[i])
set_option maxRecDepth 100000 in
set_option maxHeartbeats 800000 in
theorem same_any (g r : Nat) (p : Dp) (D : Dv) (c : Int) (bv : Value) (bl : List Chg) (S : Nat → Prop) (Q : List ByteArray) (w : World) (hP : Pag w g p Q.length c bv bl) (hD : Dev w p D) (hQ : Pgl S w r Q) (hn : 126 + 4 * Q.length ≤ D.n) (hn2 : Q.length ≤ 160) (hbl : bl.length ≤ 1000) :
    Calls Tryz.prog 16 #[.pointer (some ⟨g, 0, none⟩), .pointer (some ⟨r, 0, none⟩)] w fun e w' => e = .returned (.bool (sameB D bl Q)) ∧ Kp none' w w' := by
  obtain ⟨lv, q0, a, cc, rfl, _, _, ha'⟩ := hQ.i
  have ha := hide ha'
  clear ha'
  have hc1 := hP.c1
  have hne : ((Q.length : Int) != (Q.length : Int)) = false := by simp
  have q0d : w.drew.cell? ⟨r, 0, none⟩ = some (.slice a Q.length cc) := q0
  have hc1d : w.drew.cell? ⟨g, 1, none⟩ = some (.int .i64 (Q.length : Int)) := hc1
  have HB1 : Hid (∀ i (h : i < Q.length), rdP D bl i ≠ Q[i] → sameB D bl Q = false) := fun i h hx => by
    unfold sameB
    rw [decide_eq_false_iff_not]
    exact fun hA => hx (hA i h)
  obtain ⟨R, HR⟩ : ∃ R, Hid (sameB D bl Q = R) := ⟨_, rfl⟩
  rw [HR.out] at HB1
  rw [HR.out]
  go_enter Tryz.func16, Tryz.ntmps16
  go_upto_region 1 with fail
  go_region_held_law (fun W => W.cell? ⟨r, 0, none⟩ = some (.slice a Q.length cc)) (first | assumption) (first
    | (go_at_call 22; refine (psize_any _ _ _ hc1d).mono ?_; rintro e w' ⟨rfl, rfl⟩)
    | fail)
  go_wp2
  go_loopw [5] (fun t wr => ∃ k : Nat, k ≤ Q.length ∧ t = .int .i64 k ∧ (∀ i (h : i < Q.length), i < k → rdP D bl i = Q[i]) ∧ Kp none' w wr) (fun t _ => Q.length - (intOf t).toNat)
  case atStart => exact ⟨0, Nat.zero_le _, rfl, fun i _ h => absurd h (by omega), Kp.drew _ _⟩
  case round =>
    obtain ⟨k, hk, rfl, hA, hK⟩ := hrel
    have q0r := hK.cell q0 (fun h => h)
    by_cases hlt : k < Q.length
    · have hki : (k : Int) < (Q.length : Int) := by omega
      obtain ⟨b, o, rfl, _, hbl2, hc⟩ := ha.out k hlt
      have hrd := pread_any g Q.length k p D c bv bl wr (hP.keptN hK) (hD.keptN hK) hlt hn hn2 hbl
      have HX := hide (HB1.out k hlt)
      have HA := hide hA
      have HS : Hid (rdP D bl k = Q[k] → ∀ i (h : i < Q.length), i < k + 1 → rdP D bl i = Q[i]) := fun he i hi hik => by
        by_cases e : i = k
        · subst e; exact he
        · exact HA.out i hi (by omega)
      clear hA
      generalize Q[k] = y at *
      generalize rdP D bl k = x at *
      have k1 : ∀ W : World, Kp none' wr W → W.cell? ⟨b, o + k, none⟩ = some (.string y) := fun W h => (hK.then h).cell hc (fun h => h)
      have k2 : ∀ W : World, Kp none' wr W → W.cell? ⟨r, 0, none⟩ = some (.slice (some ⟨b, o, none⟩) Q.length cc) := fun W h => h.cell q0r (fun h => h)
      by_cases he : x = y
      · have hbe : (x.toList == y.toList) = true := by rw [he]; simp
        go_wp2_with (go_at_call 20; refine hrd.mono ?_; rintro e w2 ⟨rfl, hk2⟩; have u1 := k1 _ hk2; have u2 := k2 _ hk2)
        go_roundw
        case rel => exact ⟨k + 1, by omega, by go_num, HS.out he, hK.then hk2⟩
        case measure => simp [intOf]; omega
      · have hbe : (x.toList == y.toList) = false := by
          rw [beq_eq_false_iff_ne]
          exact fun h => he (bytes_eq h)
        have hR0 := HX.out he
        go_wp2_with (go_at_call 20; refine hrd.mono ?_; rintro e w2 ⟨rfl, hk2⟩; have u1 := k1 _ hk2; have u2 := k2 _ hk2)
        go_ret
        exact ⟨by rw [hR0]; rfl, hK.then hk2⟩
    · obtain rfl : k = Q.length := by omega
      have hRT : R = true := by
        rw [← HR.out]
        unfold sameB
        rw [decide_eq_true_iff]
        exact fun i h => hA i h h
      go_wp2
      go_ret
      exact ⟨by rw [hRT]; rfl, hK⟩

end Go.Proofs.YtgfijbbibafdfaaGreat
