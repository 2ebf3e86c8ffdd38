/- Contracts, over the turned program: the reference's Right, Write, Read and Same of tuples answer as the plain words say. Conditions: those that each theorem states. -/
import Derived.Test.YtiledkdoabdnnaaKParse
import Derived.Test.YtiledkdoabdnnaaKWrite
import Derived.Test.YtiledkdoabdnnaaKRead
import Derived.Test.YtiledkdoabdnnaaRefRead
namespace Go.Proofs.Ytiledkdoabdnnaa
open Go.RowKit
set_option linter.unusedVariables false

set_option maxRecDepth 100000 in
set_option maxHeartbeats 400000 in
theorem right_any (x : V) (w : World) :
    Calls Try.prog 42 #[x.val] w fun e w' => e = .returned (.bool (okV x)) ∧ w.grownBy w' none := by
  obtain ⟨k, n, s⟩ := x
  unfold V.val okV
  dsimp only
  by_cases h1 : k = 1
  · subst h1
    by_cases hs : s.toList.isEmpty = true
    all_goals
      go_enter Try.func42, Try.ntmps42
      go_wp2
      go_ret
      exact ⟨by simp [hs], World.grownBy_alloc _ _ _⟩
  · by_cases h2 : k = 2
    · subst h2
      go_enter Try.func42, Try.ntmps42
      go_wp2
      go_ret
      exact ⟨by simp, World.grownBy_alloc _ _ _⟩
    · have e1 : (k == 1) = false := by simp [h1]
      have e2 : (k == 2) = false := by simp [h2]
      go_enter Try.func42, Try.ntmps42
      go_wp2
      go_ret
      exact ⟨by simp [h1, h2], World.grownBy_alloc _ _ _⟩

theorem mkB_append (a b : List UInt8) : mkB a ++ mkB b = mkB (a ++ b) := by
  apply ByteArray.ext
  apply Array.ext'
  rw [ByteArray.data_append]
  simp [mkB]
theorem ext_one (s : ByteArray) (j : Nat) (h : j < s.size) : s.extract j (j + 1) = mkB [s[j]] := by
  apply ByteArray.ext
  apply Array.ext'
  rw [ext_list, mkB_list]
  have h2 : j < s.data.toList.length := by simpa using h
  rw [show j + 1 - j = 1 by omega, List.drop_eq_getElem_cons h2]
  simp
  rfl

set_option maxRecDepth 100000 in
set_option maxHeartbeats 400000 in
theorem value_any (x : V) (w : World) (hx : x.wf) (hk : okV x = true) (hl : (encV x).length ≤ 1099511627776) :
    Calls Try.prog 43 #[x.val] w fun e w' => e = .returned (.string (mkB (encV x))) ∧ w.grownBy w' none := by
  obtain ⟨k, n, s⟩ := x
  obtain ⟨n0, n1, s0⟩ := hx
  dsimp only at n0 n1 s0
  unfold V.val
  dsimp only
  rcases (okV_iff _).1 hk with ⟨h1, h2⟩ | ⟨h1, h2⟩
  · dsimp only at h1 h2
    subst h1
    have HU : Hid (IntKind.u64.wrap (IntKind.u64.wrap n + 9223372036854775808) = (up n : Int)) := up_u64 n n0 n1
    have HU2 : Hid (((up n : Nat) : Int) < 18446744073709551616) := up_lt n n1
    have hE : encV ⟨1, n, s⟩ = [1] ++ be (up n) 8 := rfl
    rw [hE]
    have hga := World.grownBy_alloc w (.cells #[.int .i64 1, .int .i64 n, .string s] 29) none
    clear hl n0 n1 hk hE h2
    go_enter Try.func43, Try.ntmps43
    go_wp2_with fail
    rw [HU.out]
    refine (rfnum_any (up n) 8 _ HU2.out).mono ?_
    rintro e w1 ⟨rfl, hg1⟩
    rw [wid8]
    obtain ⟨S, HS⟩ : ∃ S : ByteArray, Hid ((⟨(be (up n) 8).toArray⟩ : ByteArray) = S) := ⟨_, rfl⟩
    rw [HS.out]
    have hS : ¬ 9223372036854775807 < 1 + S.size := by
      rw [← HS.out]
      show ¬ _ < 1 + (be (up n) 8).toArray.size
      simp [be_len]
    go_wp2
    go_ret
    refine ⟨?_, grown_up hga hg1⟩
    have e : mkB (1 :: be (up n) 8) = mkB [1] ++ S := by rw [← HS.out]; exact (mkB_append [1] _).symm
    rw [e]
    rfl
  · dsimp only at h1 h2
    subst h1 h2
    have hE : encV ⟨2, 0, s⟩ = 2 :: encT s.data.toList := rfl
    have HE : Hid (encV ⟨2, 0, s⟩ = 2 :: encT s.data.toList) := hE
    have hga := World.grownBy_alloc w (.cells #[.int .i64 2, .int .i64 0, .string s] 29) none
    have Hl : Hid (∀ j, (2 :: esc (s.data.toList.take j)).length + 2 ≤ 1099511627776) := by
      intro j
      rw [hE] at hl
      have h2 : esc s.data.toList = esc (s.data.toList.take j) ++ esc (s.data.toList.drop j) := by rw [← esc_append, List.take_append_drop]
      unfold encT at hl
      rw [h2] at hl
      simp only [List.length_cons, List.length_append, List.length_nil] at hl ⊢
      omega
    unfold maxLen at s0
    clear hl n0 n1 hk hE
    go_enter Try.func43, Try.ntmps43
    go_wp2_with fail
    go_loop [3, 4] (fun u i => ∃ (j : Nat) (A : ByteArray), j ≤ s.size ∧ i = .int .i64 j ∧ u = .string A ∧ Hid (A = mkB (2 :: esc (s.data.toList.take j)))) (fun _ i => s.size - (intOf i).toNat)
    case atStart => exact ⟨0, _, Nat.zero_le _, rfl, rfl, rfl⟩
    case round =>
      obtain ⟨j, A, hj, rfl, rfl, HA⟩ := hrel
      have HAs : Hid (A.size + 2 ≤ 1099511627776) := by show _ ≤ _; rw [HA.out, mkB_size]; exact Hl.out j
      by_cases hlt : j < s.size
      · have Ht : Hid (esc (s.data.toList.take (j + 1)) = esc (s.data.toList.take j) ++ esc [s[j]]) := by show _ = _; rw [take_snoc s j hlt, esc_append]
        have Hx : Hid (s.extract j (j + 1) = mkB [s[j]]) := ext_one s j hlt
        have hji : (j : Int) + 1 ≤ (s.size : Int) := by omega
        have t1 : ¬ 9223372036854775807 < A.size + (min (j + 1) s.size - j) := by have := HAs.out; omega
        have t2 : ¬ 9223372036854775807 < A.size + (min (j + 1) s.size - j) + 1 := by have := HAs.out; omega
        by_cases hz : s[j] = 0
        · have hz' : ((s[j].toNat : Int) == 0) = true := by simp [hz]
          have He : Hid (esc [s[j]] = [s[j]] ++ [255]) := by show _ = _; rw [hz]; rfl
          clear hz
          go_wp2
          go_round
          case rel =>
            refine ⟨j + 1, _, by omega, by go_num, rfl, ?_⟩
            show _ = _
            rw [Ht.out, He.out, Hx.out, HA.out, mkB_append]
            refine (mkB_append _ [255]).trans ?_
            simp
          case measure => simp [intOf]; omega
        · have hz' : ((s[j].toNat : Int) == 0) = false := by
            rw [beq_eq_false_iff_ne]
            intro h
            exact hz (UInt8.toNat_inj.1 (by simpa using h))
          have He : Hid (esc [s[j]] = [s[j]]) := by show _ = _; simp [esc, hz]
          clear hz
          go_wp2
          go_round
          case rel =>
            refine ⟨j + 1, _, by omega, by go_num, rfl, ?_⟩
            show _ = _
            rw [Ht.out, He.out, Hx.out, HA.out, mkB_append]
            rfl
          case measure => simp [intOf]; omega
      · have Ht : Hid (s.data.toList.take j = s.data.toList) := List.take_of_length_le (by simp; omega)
        have t3 : ¬ 9223372036854775807 < A.size + 2 := by have := HAs.out; omega
        go_wp2
        go_ret
        refine ⟨?_, hga⟩
        rw [HE.out, HA.out, Ht.out]
        exact congrArg (fun x => Ending.returned (Value.string x)) (mkB_append _ [0, 1])

set_option maxRecDepth 100000 in
set_option maxHeartbeats 400000 in
theorem rwrite_any (v : Value) (l : List V) (w : World) (hT : Tup w v l) (hwf : ∀ x ∈ l, x.wf) (hl : (encL l).length ≤ 1099511627776) :
    Calls Try.prog 26 #[v] w fun e w' => e = .returned (.tuple #[.string ⟨(wrB l).toArray⟩, .int .i64 (wrE l)]) ∧ w.grownBy w' none := by
  obtain ⟨a, c, rfl, hc, hm, hL⟩ := hT
  have hlm : l.length ≤ maxLen := Nat.le_trans hc hm
  unfold maxLen at hlm
  have Hl : Hid ((encL l).length ≤ 1099511627776) := hl
  have HL : Hid (∀ i (h : i < l.length), ∃ b off, a = some ⟨b, off, none⟩ ∧ b < w.heap.size ∧
    w.cell? ⟨b, off + i * 3, none⟩ = some (.int .i64 l[i].k) ∧ w.cell? ⟨b, off + i * 3 + 1, none⟩ = some (.int .i64 l[i].n) ∧ w.cell? ⟨b, off + i * 3 + 2, none⟩ = some (.string l[i].s)) := hL
  clear hl hL hm
  go_enter Try.func26, Try.ntmps26
  go_wp2_with fail
  go_loopw [4, 5] (fun u i wr => ∃ (j : Nat) (A : ByteArray), j ≤ l.length ∧ i = .int .i64 j ∧ u = .string A ∧ Hid (A = mkB (encL (l.take j))) ∧ Hid ((l.take j).all okV = true) ∧ w.grownBy wr none) (fun _ i _ => l.length - (intOf i).toNat)
  case atStart => exact ⟨0, _, Nat.zero_le _, rfl, rfl, rfl, by show _ = _; simp, World.grownBy.refl _ _⟩
  case round =>
    obtain ⟨j, A, hj, rfl, rfl, HA, Hok, hg⟩ := hrel
    by_cases hlt : j < l.length
    · obtain ⟨b, off, rfl, hb, c0, c1, c2⟩ := HL.out j hlt
      have hs := hg.block b hb (by simp)
      rw [← cell_same hs] at c0 c1 c2
      have hbr : b < wr.heap.size := Nat.lt_of_lt_of_le hb hg.size
      have hwx := hwf l[j] (List.getElem_mem hlt)
      have Hle : Hid ((encL (l.take j)).length + (encV l[j]).length ≤ 1099511627776) := by
        have h1 := encL_le l (j + 1)
        rw [encL_take l j hlt, List.length_append] at h1
        exact Nat.le_trans h1 Hl.out
      have Htk : Hid (encL (l.take (j + 1)) = encL (l.take j) ++ encV l[j]) := encL_take l j hlt
      have Hall : Hid ((l.take (j + 1)).all okV = okV l[j]) := by
        show _ = _
        rw [List.take_succ_eq_append_getElem hlt, List.all_append, Hok.out]
        simp
      have Hbad : Hid (okV l[j] = false → l.all okV = false) := by
        intro h
        rw [List.all_eq_false]
        exact ⟨l[j], List.getElem_mem hlt, by simp [h]⟩
      generalize l[j] = x at *
      have hji : (j : Int) < (l.length : Int) := by omega
      clear hs
      by_cases hx : okV x = true
      · go_wp2_with fail
        refine (right_any x _).mono ?_
        rintro e w1 ⟨rfl, hg1⟩
        have hs1 := hg1.block b hbr (by simp)
        rw [← cell_same hs1] at c0 c1 c2
        clear hs1
        go_wp2_with fail
        refine (value_any x _ hwx hx (by have := Hle.out; omega)).mono ?_
        rintro e w2 ⟨rfl, hg2⟩
        have hg3 : w.grownBy w2 none := grown_up (grown_up hg hg1) hg2
        obtain ⟨S, HS⟩ : ∃ S : ByteArray, Hid (mkB (encV x) = S) := ⟨_, rfl⟩
        rw [HS.out]
        have t1 : ¬ 9223372036854775807 < A.size + S.size := by
          have h1 := Hle.out
          rw [HA.out, ← HS.out, mkB_size, mkB_size]
          omega
        go_wp2_with fail
        go_roundw
        case rel => exact ⟨j + 1, _, by omega, by go_num, rfl, by show _ = _; rw [HA.out, ← HS.out, mkB_append, Htk.out], by show _ = _; rw [Hall.out]; exact hx, hg3⟩
        case measure => simp [intOf]; omega
      · have hx' : okV x = false := by simpa using hx
        have E1 : Hid (wrB l = []) := by show _ = _; unfold wrB; rw [Hbad.out hx']; rfl
        have E2 : Hid (wrE l = 6) := by show _ = _; unfold wrE; rw [Hbad.out hx']; rfl
        clear hx
        go_wp2_with fail
        refine (right_any x _).mono ?_
        rintro e w1 ⟨rfl, hg1⟩
        go_wp2
        go_ret2
        rw [E1.out, E2.out]
        exact ⟨rfl, grown_up hg hg1⟩
    · have ej : l.take j = l := List.take_of_length_le (by omega)
      rw [ej] at HA Hok
      have E1 : Hid (A = ⟨(wrB l).toArray⟩) := by show _ = _; unfold wrB; rw [Hok.out]; exact HA.out
      have E2 : Hid (wrE l = 0) := by show _ = _; unfold wrE; rw [Hok.out]; rfl
      have hji : ¬ (j : Int) < (l.length : Int) := by omega
      clear ej
      go_wp2
      go_ret2
      rw [← E1.out, E2.out]
      exact ⟨rfl, hg⟩

end Go.Proofs.Ytiledkdoabdnnaa
