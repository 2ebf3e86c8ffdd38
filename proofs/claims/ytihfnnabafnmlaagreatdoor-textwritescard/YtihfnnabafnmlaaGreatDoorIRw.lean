/- Contracts, over the turned program: the reference's one and Write of instructions make their bytes as the plain words say. Conditions: those that each theorem states. -/
import Derived.Test.YtihfnnabafnmlaaGreatDoorIRef
import Derived.Test.YtihfnnabafnmlaaGreatDoorIWr
namespace Go.Proofs.YtihfnnabafnmlaaGreatDoor
open Go.RowKit
set_option linter.unusedVariables false

theorem str_byte (o : Int) : (⟨#[UInt8.ofNat o.toNat]⟩ : ByteArray) = mkB [byt o] := rfl
theorem opsB_snoc (x : In) (k : Nat) (hk : k < 3) : opsB (k + 1) x = opsB k x ++ [byt (x.fl k)] := by
  rcases (by omega : k = 0 ∨ k = 1 ∨ k = 2) with rfl | rfl | rfl <;> rfl
theorem cell_grown {w w' : World} {b o : Nat} {v : Value} (hg : w.grownBy w' none) (hc : w.cell? ⟨b, o, none⟩ = some v) : w'.cell? ⟨b, o, none⟩ = some v := (cell_same (hg.block b (lt_of_cell hc) (by simp)) o).trans hc

set_option maxRecDepth 100000 in
set_option maxHeartbeats 1000000 in
theorem rone_any (x : In) (w : World) (hx : x.wf) (hk : okI x = true) :
    Calls Tryz.prog 34 #[x.val] w fun e w' => e = .returned (.string (mkB (encI x))) ∧ w.grownBy w' none := by
  have hb := Ib.new w x
  have hg0 := World.grownBy_alloc w (.cells #[.int .i64 x.op, .int .i64 x.a, .int .i64 x.b, .int .i64 x.c, .int .i64 x.v.k, .int .i64 x.v.n, .string x.v.s] 37) none
  obtain ⟨o1, o2, o3, o4, o5⟩ := okI_parts hk
  obtain ⟨nn, HN⟩ : ∃ nn : Nat, Hid (nOps x.op = nn) := ⟨_, rfl⟩
  have hn3 : nn ≤ 3 := by have := HN.out; have := nOps_le x.op; omega
  have e1 : nOpI x.op = (nOps x.op : Int) := by simp [nOpI, o1]
  have Hop := hide (byte_nat x.op (opOk_byte o1))
  have Hfl := hide (fit_fl x hk)
  have HE : Hid (encI x = byt x.op :: (opsB nn x ++ (if x.op = 1 then encC x.v else []))) := by show _ = _; rw [← HN.out]; rfl
  have Ho5 := hide o5
  have hv := hx.1
  have s0 := hv.s0
  obtain ⟨E, HEE⟩ : ∃ E, Hid (encI x = E) := ⟨_, rfl⟩
  rw [HEE.out]
  unfold In.val
  go_enter Tryz.func34, Tryz.ntmps34
  go_wp2_with fail
  refine (roperands_any x.op _).mono ?_
  rintro e w1 ⟨rfl, hw1⟩
  obtain rfl := hw1.symm
  rw [e1, o1, HN.out]
  obtain ⟨c0, c1, c2, c3, c4, c5, c6⟩ := hb.cs
  go_wp2_with fail
  rw [Hop.out.1]
  refine (rfnum1 x.op.toNat _ Hop.out.2).mono ?_
  rintro e w2 ⟨rfl, hg2⟩
  rw [str_byte]
  have hb2 := hb.kept hg2 (by simp)
  have hl := ab_new w2 x.a x.b x.c 3 w2.heap.size rfl
  have hg3 := World.grownBy_alloc w2 (.cells #[.int .i64 x.a, .int .i64 x.b, .int .i64 x.c] 3) none
  have hb3 := hb2.kept hg3 (by simp)
  have hgg := grown_up (grown_up hg0 hg2) hg3
  clear c0 c1 c2 c3 c4 c5 c6 hb hg0 o1 o2 o3 o4 o5 e1
  obtain ⟨c0, c1, c2, c3, c4, c5, c6⟩ := hb2.cs
  obtain ⟨S1, HS1⟩ : ∃ S : ByteArray, Hid (mkB [byt x.op] = S) := ⟨_, rfl⟩
  rw [HS1.out]
  go_wp2_with fail
  clear c0 c1 c2 c3 c4 c5 c6 hb2 hg2 hg3
  generalize w2.alloc (.cells #[.int .i64 x.a, .int .i64 x.b, .int .i64 x.c] 3) = W at *
  generalize w2.heap.size = p at *
  have Hcl := hide (fun k hk => fl_cell hl k hk)
  clear hl
  go_loopw [5, 7] (fun u i wr => ∃ (k : Nat) (A : ByteArray), k ≤ nn ∧ i = .int .i64 k ∧ u = .string A ∧ Hid (A = mkB (byt x.op :: opsB k x)) ∧ W.grownBy wr none) (fun _ i _ => nn - (intOf i).toNat)
  case atStart => exact ⟨0, S1, Nat.zero_le _, rfl, rfl, HS1.out.symm, World.grownBy.refl _ _⟩
  case round =>
    obtain ⟨k, A, hkn, rfl, rfl, HA, hg⟩ := hrel
    by_cases hlt : k < nn
    · have hcell := cell_grown hg (Hcl.out k (by omega))
      have Hby := hide (byte_nat (x.fl k) (Hfl.out k))
      have Hsn := hide (opsB_snoc x k (by omega))
      generalize x.fl k = o at *
      go_wp2_with fail
      rw [Hby.out.1]
      refine (rfnum1 o.toNat _ Hby.out.2).mono ?_
      rintro e w3 ⟨rfl, hg3⟩
      rw [str_byte]
      obtain ⟨S, HS⟩ : ∃ S : ByteArray, Hid (mkB [byt o] = S) := ⟨_, rfl⟩
      rw [HS.out]
      have t1 : ¬ 9223372036854775807 < A.size + S.size := by
        have h2 := opsB_len k x (by omega)
        rw [HA.out, ← HS.out, mkB_size, mkB_size]
        simp only [List.length_cons, List.length_nil]
        omega
      go_wp2_with fail
      go_roundw
      case rel => exact ⟨k + 1, _, by omega, by go_num, rfl, by show _ = _; rw [HA.out, ← HS.out, mkB_append, Hsn.out]; rfl, grown_up hg hg3⟩
      case measure => simp [intOf]; omega
    · have ek : k = nn := by omega
      have HA2 : Hid (A = mkB (byt x.op :: opsB nn x)) := by show _ = _; rw [HA.out, ek]
      have HAs : Hid (A.size ≤ 4) := by
        have h2 := opsB_len nn x hn3
        show _ ≤ _
        rw [HA2.out, mkB_size, List.length_cons]
        omega
      have hb4 := hb3.kept hg (by simp)
      have hG4 := grown_up hgg hg
      clear hb3 HA
      obtain ⟨c0, c1, c2, c3, c4, c5, c6⟩ := hb4.cs
      by_cases h1 : x.op = 1
      · have h1' : (x.op != 1) = false := by simp [h1]
        have Hok : Hid (okV x.v = true) := by
          have := Ho5.out
          rw [if_pos h1] at this
          unfold okC at this
          rw [Bool.and_eq_true] at this
          exact this.1
        have He : Hid (E = byt x.op :: (opsB nn x ++ encC x.v)) := by show _ = _; rw [← HEE.out, HE.out, if_pos h1]
        clear h1
        obtain ⟨V, HV⟩ : ∃ V, Hid (x.v = V) := ⟨_, rfl⟩
        rw [HV.out] at c4 c5 c6 Hok He hv s0
        obtain ⟨k', n', s'⟩ := V
        dsimp only at c4 c5 c6 s0
        rcases (okV_iff _).1 Hok.out with ⟨h1, h2⟩ | ⟨h1, h2⟩
        · dsimp only at h1 h2
          subst h1
          have HU := hide (n2u_wrap n')
          have HU2 := hide (n2u_lt n')
          have t1 : ¬ 9223372036854775807 < A.size + 1 := by have := HAs.out; omega
          clear h2
          go_wp2_with fail
          refine (rfnum1 1 _ (by omega)).mono ?_
          rintro e w3 ⟨rfl, hg3⟩
          have d0 := cell_grown hg3 c4
          have d1 := cell_grown hg3 c5
          obtain ⟨S, HS⟩ : ∃ S : ByteArray, Hid ((⟨#[UInt8.ofNat 1]⟩ : ByteArray) = S) := ⟨_, rfl⟩
          rw [HS.out]
          have t2 : ¬ 9223372036854775807 < A.size + S.size := by rw [← HS.out]; exact t1
          go_wp2_with fail
          rw [HU.out]
          refine (rfnum_any (n2u n') 8 _ HU2.out).mono ?_
          rintro e w4 ⟨rfl, hg4⟩
          rw [wid8]
          obtain ⟨T, HT⟩ : ∃ T : ByteArray, Hid ((⟨(be (n2u n') 8).toArray⟩ : ByteArray) = T) := ⟨_, rfl⟩
          rw [HT.out]
          have t3 : ¬ 9223372036854775807 < (A ++ S).size + T.size := by
            have := HAs.out
            rw [ByteArray.size_append, ← HS.out, ← HT.out]
            show ¬ _ < A.size + 1 + (be (n2u n') 8).toArray.size
            simp [be_len]
            omega
          have t4 : ¬ 9223372036854775807 < A.size + S.size + T.size := by rw [ByteArray.size_append] at t3; exact t3
          go_wp2
          go_ret
          refine ⟨?_, grown_up (grown_up hG4 hg3) hg4⟩
          rw [He.out, HA2.out, ← HS.out, ← HT.out]
          have e : mkB (byt x.op :: (opsB nn x ++ encC ⟨1, n', s'⟩)) = (mkB (byt x.op :: opsB nn x) ++ mkB [UInt8.ofNat 1]) ++ mkB (be (n2u n') 8) := by
            rw [mkB_append, mkB_append]
            show mkB (byt x.op :: (opsB nn x ++ (1 :: be (n2u n') 8))) = _
            simp
          rw [e]
          rfl
        · dsimp only at h1 h2
          subst h1 h2
          have t1 : ¬ 9223372036854775807 < A.size + 1 := by have := HAs.out; omega
          go_wp2_with fail
          refine (rfnum1 2 _ (by omega)).mono ?_
          rintro e w3 ⟨rfl, hg3⟩
          have d0 := cell_grown hg3 c4
          have d1 := cell_grown hg3 c6
          obtain ⟨S, HS⟩ : ∃ S : ByteArray, Hid ((⟨#[UInt8.ofNat 2]⟩ : ByteArray) = S) := ⟨_, rfl⟩
          rw [HS.out]
          have t2 : ¬ 9223372036854775807 < A.size + S.size := by rw [← HS.out]; exact t1
          go_wp2_with fail
          refine (rfstr_any s' _ s0).mono ?_
          rintro e w4 ⟨rfl, hg4⟩
          obtain ⟨T, HT⟩ : ∃ T : ByteArray, Hid ((⟨(strB s'.data.toList).toArray⟩ : ByteArray) = T) := ⟨_, rfl⟩
          rw [HT.out]
          have t3 : ¬ 9223372036854775807 < (A ++ S).size + T.size := by
            have := HAs.out
            have h2 := strB_len s'.data.toList
            rw [ByteArray.size_append, ← HS.out, ← HT.out]
            show ¬ _ < A.size + 1 + (strB s'.data.toList).toArray.size
            rw [List.size_toArray]
            omega
          have t4 : ¬ 9223372036854775807 < A.size + S.size + T.size := by rw [ByteArray.size_append] at t3; exact t3
          go_wp2
          go_ret
          refine ⟨?_, grown_up (grown_up hG4 hg3) hg4⟩
          rw [He.out, HA2.out, ← HS.out, ← HT.out]
          have e : mkB (byt x.op :: (opsB nn x ++ encC ⟨2, 0, s'⟩)) = (mkB (byt x.op :: opsB nn x) ++ mkB [UInt8.ofNat 2]) ++ mkB (strB s'.data.toList) := by
            rw [mkB_append, mkB_append]
            show mkB (byt x.op :: (opsB nn x ++ (2 :: strB s'.data.toList))) = _
            simp
          rw [e]
          rfl
      · have h1' : (x.op != 1) = true := by simp [h1]
        have He : Hid (E = byt x.op :: opsB nn x) := by show _ = _; rw [← HEE.out, HE.out, if_neg h1, List.append_nil]
        clear h1
        go_wp2
        go_ret
        rw [He.out, HA2.out]
        exact ⟨rfl, hG4⟩

theorem encP_le (l : List In) (j : Nat) (h : l.length ≤ 64) : (encP (l.take j)).length ≤ 17280 := by
  have h1 := encP_len (l.take j)
  rw [List.length_take] at h1
  omega

set_option maxRecDepth 100000 in
set_option maxHeartbeats 1000000 in
theorem rwrite13_any (v : Value) (l : List In) (w : World) (hT : Ins w v l) (hwf : ∀ x ∈ l, x.wf) :
    Calls Tryz.prog 16 #[v] w fun e w' => e = .returned (.tuple #[.string ⟨(wiB l).toArray⟩, .int .i64 (wiE l)]) ∧ w.grownBy w' none := by
  obtain ⟨a, c, rfl, hc, hm, hL⟩ := hT
  have hlm : l.length ≤ maxLen := Nat.le_trans hc hm
  unfold maxLen at hlm
  by_cases h64 : (64 : Int) < (l.length : Int)
  · have E1 : Hid (wiB l = []) := by show _ = _; unfold wiB wiOk; rw [decide_eq_false (by omega)]; rfl
    have E2 : Hid (wiE l = 3) := by show _ = _; unfold wiE; rw [if_pos (by omega)]
    clear hL hm
    go_enter Tryz.func16, Tryz.ntmps16
    go_wp2
    go_ret2
    rw [E1.out, E2.out]
    exact ⟨rfl, World.grownBy.refl _ _⟩
  · have HL := hide hL
    clear hL hm
    go_enter Tryz.func16, Tryz.ntmps16
    go_wp2_with fail
    go_loopw [4, 5] (fun u i wr => ∃ (j : Nat) (A : ByteArray), j ≤ l.length ∧ i = .int .i64 j ∧ u = .string A ∧ Hid (A = mkB (encP (l.take j))) ∧ Hid ((l.take j).all okI = true) ∧ w.grownBy wr none) (fun _ i _ => l.length - (intOf i).toNat)
    case atStart => exact ⟨0, _, Nat.zero_le _, rfl, rfl, rfl, by show _ = _; simp, World.grownBy.refl _ _⟩
    case round =>
      obtain ⟨j, A, hj, rfl, rfl, HA, Hok, hg⟩ := hrel
      by_cases hlt : j < l.length
      · obtain ⟨b, off, rfl, hb, hcs⟩ := HL.out j hlt
        have hs := hg.block b hb (by simp)
        have hcs' : ∀ q u, (In.cells l[j])[q]? = some u → wr.cell? ⟨b, off + j * 7 + q, none⟩ = some u := fun q u hu => by rw [cell_same hs]; exact hcs q u hu
        have hbr : b < wr.heap.size := Nat.lt_of_lt_of_le hb hg.size
        have hwx := hwf l[j] (List.getElem_mem hlt)
        have Hle := hide (encP_le l j (by omega))
        have Htk : Hid (encP (l.take (j + 1)) = encP (l.take j) ++ encI l[j]) := encP_take l j hlt
        have Hall : Hid ((l.take (j + 1)).all okI = okI l[j]) := by
          show _ = _
          rw [List.take_succ_eq_append_getElem hlt, List.all_append, Hok.out]
          simp
        have Hbad : Hid (okI l[j] = false → l.all okI = false) := by
          intro h
          rw [List.all_eq_false]
          exact ⟨l[j], List.getElem_mem hlt, by simp [h]⟩
        generalize l[j] = x at *
        obtain ⟨c0, c1, c2, c3, c4, c5, c6⟩ := cells7 hcs'
        have hji : (j : Int) < (l.length : Int) := by omega
        clear hs hcs
        by_cases hx : okI x = true
        · go_wp2_with fail
          refine (rright_any x _ hwx).mono ?_
          rintro e w1 ⟨rfl, hg1⟩
          rw [hx]
          clear c0 c1 c2 c3 c4 c5 c6
          have hcs2 : ∀ q u, (In.cells x)[q]? = some u → w1.cell? ⟨b, off + j * 7 + q, none⟩ = some u := fun q u hu => cell_grown hg1 (hcs' q u hu)
          obtain ⟨c0, c1, c2, c3, c4, c5, c6⟩ := cells7 hcs2
          clear hcs' hcs2
          go_wp2_with fail
          refine (rone_any x _ hwx hx).mono ?_
          rintro e w2 ⟨rfl, hg2⟩
          have hg3 : w.grownBy w2 none := grown_up (grown_up hg hg1) hg2
          have Hen := hide (encI_len x)
          obtain ⟨S, HS⟩ : ∃ S : ByteArray, Hid (mkB (encI x) = S) := ⟨_, rfl⟩
          rw [HS.out]
          have t1 : ¬ 9223372036854775807 < A.size + S.size := by
            have h1 := Hle.out
            have h2 := Hen.out
            rw [HA.out, ← HS.out, mkB_size, mkB_size]
            omega
          go_wp2_with fail
          go_roundw
          case rel => exact ⟨j + 1, _, by omega, by go_num, rfl, by show _ = _; rw [HA.out, ← HS.out, mkB_append, Htk.out], by show _ = _; rw [Hall.out]; exact hx, hg3⟩
          case measure => simp [intOf]; omega
        · have hx' : okI x = false := by simpa using hx
          have E1 : Hid (wiB l = []) := by show _ = _; unfold wiB wiOk; rw [Hbad.out hx', Bool.and_false]; rfl
          have E2 : Hid (wiE l = 4) := by show _ = _; unfold wiE; rw [if_neg (by omega), Hbad.out hx']; rfl
          clear hx
          go_wp2_with fail
          refine (rright_any x _ hwx).mono ?_
          rintro e w1 ⟨rfl, hg1⟩
          rw [hx']
          go_wp2
          go_ret2
          rw [E1.out, E2.out]
          exact ⟨rfl, grown_up hg hg1⟩
      · have ej : l.take j = l := List.take_of_length_le (by omega)
        rw [ej] at HA Hok
        clear ej
        have E1 : Hid (wiB l = encP l) := by show _ = _; unfold wiB wiOk; rw [Hok.out, decide_eq_true (by omega)]; rfl
        have E2 : Hid (wiE l = 0) := by show _ = _; unfold wiE; rw [if_neg (by omega), Hok.out]; rfl
        go_wp2
        go_ret2
        rw [E1.out, E2.out, HA.out]
        exact ⟨rfl, hg⟩

end Go.Proofs.YtihfnnabafnmlaaGreatDoor
