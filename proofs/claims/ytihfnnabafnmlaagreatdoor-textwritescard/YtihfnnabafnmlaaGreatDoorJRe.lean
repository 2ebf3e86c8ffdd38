/- Contract, over the turned program: the document's line of an instruction. Conditions: those that the theorem states. -/
import Derived.Test.YtihfnnabafnmlaaGreatDoorJRd
import Derived.Test.YtihfnnabafnmlaaGreatDoorJTe
namespace Go.Proofs.YtihfnnabafnmlaaGreatDoor
open Go.RowKit
set_option linter.unusedVariables false

theorem joinW_snoc : ∀ (ws : List (List UInt8)) (v : List UInt8), ws ≠ [] → joinW (ws ++ [v]) = joinW ws ++ 32 :: v
  | [], v, h => absurd rfl h
  | [w], v, _ => rfl
  | w :: u :: r, v, _ => by
    have ih := joinW_snoc (u :: r) v (by simp)
    show w ++ 32 :: joinW (u :: r ++ [v]) = (w ++ 32 :: joinW (u :: r)) ++ 32 :: v
    rw [ih]
    simp
theorem opsW_snoc (x : In) (k : Nat) (hk : k < 3) : opsW (k + 1) x = opsW k x ++ [Lib.itoa (x.fl k)] := by
  rcases (by omega : k = 0 ∨ k = 1 ∨ k = 2) with rfl | rfl | rfl <;> rfl

set_option maxRecDepth 100000 in
set_option maxHeartbeats 1000000 in
theorem rline_any (x : In) (w : World) (hx : x.wf) (hk : okI x = true) (hT : Tab10 w) :
    Calls Tryz.prog 17 #[x.val] w fun e w' => e = .returned (.string (mkB (lineI x))) ∧ w.grownBy w' none := by
  have hb := Ib.new w x
  have hg0 := World.grownBy_alloc w (.cells #[.int .i64 x.op, .int .i64 x.a, .int .i64 x.b, .int .i64 x.c, .int .i64 x.v.k, .int .i64 x.v.n, .string x.v.s] 37) none
  obtain ⟨o1, o2, o3, o4, o5⟩ := okI_parts hk
  obtain ⟨nn, HN⟩ : ∃ nn : Nat, Hid (nOps x.op = nn) := ⟨_, rfl⟩
  have hn3 : nn ≤ 3 := by have := HN.out; have := nOps_le x.op; omega
  have e1 : nOpI x.op = (nOps x.op : Int) := by simp [nOpI, o1]
  have hop : -9223372036854775808 ≤ x.op ∧ x.op < 9223372036854775808 := by have := of_decide_eq_true o1; omega
  have Hfl : Hid (∀ k, -9223372036854775808 ≤ x.fl k ∧ x.fl k < 9223372036854775808) := by
    intro k
    have := of_decide_eq_true (fit_fl x hk k)
    omega
  have HE : Hid (wordsI x = (nameB x.op :: opsW nn x) ++ (if x.op = 1 then [valW x.v] else [])) := by show _ = _; rw [← HN.out]; rfl
  have Ho5 := hide o5
  have hv := hx.1
  have s0 := hv.s0
  obtain ⟨E, HEE⟩ : ∃ E, Hid (lineI x = E) := ⟨_, rfl⟩
  rw [HEE.out]
  unfold In.val
  go_enter Tryz.func17, Tryz.ntmps17
  go_wp2_with fail
  refine (roperands_any x.op _).mono ?_
  rintro e w1 ⟨rfl, hw1⟩
  obtain rfl := hw1.symm
  rw [e1, o1, HN.out]
  obtain ⟨c0, c1, c2, c3, c4, c5, c6⟩ := hb.cs
  go_wp2_with fail
  refine (rname_any x.op _ hop.1 hop.2).mono ?_
  rintro e w2 ⟨rfl, hg2⟩
  have hb2 := hb.kept hg2 (by simp)
  have hl := ab_new w2 x.a x.b x.c 3 w2.heap.size rfl
  have hg3 := World.grownBy_alloc w2 (.cells #[.int .i64 x.a, .int .i64 x.b, .int .i64 x.c] 3) none
  have hb3 := hb2.kept hg3 (by simp)
  have hgg := grown_up (grown_up hg0 hg2) hg3
  have hTW := hT.keptN hgg
  clear c0 c1 c2 c3 c4 c5 c6 hb hg0 o1 o2 o3 o4 o5 e1 hop
  obtain ⟨c0, c1, c2, c3, c4, c5, c6⟩ := hb2.cs
  obtain ⟨S1, HS1⟩ : ∃ S : ByteArray, Hid (mkB (nameB x.op) = S) := ⟨_, rfl⟩
  rw [HS1.out]
  go_wp2_with fail
  clear c0 c1 c2 c3 c4 c5 c6 hb2 hg2 hg3
  generalize w2.alloc (.cells #[.int .i64 x.a, .int .i64 x.b, .int .i64 x.c] 3) = W at *
  generalize w2.heap.size = p at *
  have Hcl := hide (fun k hk => fl_cell hl k hk)
  clear hl
  have HS6 : Hid (S1.size ≤ 6) := by show _ ≤ _; rw [← HS1.out, mkB_size]; exact name_len x.op
  go_loopw [5, 7] (fun u i wr => ∃ (k : Nat) (A : ByteArray), k ≤ nn ∧ i = .int .i64 k ∧ u = .string A ∧ Hid (A = mkB (joinW (nameB x.op :: opsW k x))) ∧ A.size ≤ 6 + 21 * k ∧ W.grownBy wr none) (fun _ i _ => nn - (intOf i).toNat)
  case atStart => exact ⟨0, S1, Nat.zero_le _, rfl, rfl, HS1.out.symm, HS6.out, World.grownBy.refl _ _⟩
  case round =>
    obtain ⟨k, A, hkn, rfl, rfl, HA, hAs, hg⟩ := hrel
    by_cases hlt : k < nn
    · have hcell := cell_grown hg (Hcl.out k (by omega))
      have Hby := hide (Hfl.out k)
      have Hsn := hide (opsW_snoc x k (by omega))
      have hTr := hTW.keptN hg
      generalize x.fl k = o at *
      go_wp2_with fail
      refine (ritoa_any o _ Hby.out.1 Hby.out.2 hTr).mono ?_
      rintro e w3 ⟨rfl, hg3⟩
      have Hil := hide (itoa_len o Hby.out.1 Hby.out.2)
      obtain ⟨S, HS⟩ : ∃ S : ByteArray, Hid (mkB (Lib.itoa o) = S) := ⟨_, rfl⟩
      rw [HS.out]
      have hS20 : S.size ≤ 20 := by rw [← HS.out, mkB_size]; exact Hil.out
      have t1 : ¬ 9223372036854775807 < 1 + S.size := by omega
      have t2 : ¬ 9223372036854775807 < A.size + (1 + S.size) := by omega
      have HA2 : Hid (A ++ (⟨#[32]⟩ ++ S) = mkB (joinW (nameB x.op :: opsW (k + 1) x))) := by
        show _ = _
        rw [Hsn.out, HA.out, ← HS.out, ← List.cons_append, joinW_snoc _ _ (by simp)]
        show mkB _ ++ (mkB [32] ++ mkB _) = _
        rw [mkB_append, mkB_append]
        rfl
      have HAs2 : Hid ((A ++ ((⟨#[32]⟩ : ByteArray) ++ S)).size ≤ 6 + 21 * (k + 1)) := by
        show _ ≤ _
        rw [ByteArray.size_append, ByteArray.size_append]
        show A.size + (1 + S.size) ≤ _
        omega
      go_wp2_with fail
      go_roundw
      case rel => exact ⟨k + 1, _, by omega, by go_num, rfl, HA2.out, HAs2.out, grown_up hg hg3⟩
      case measure => simp [intOf]; omega
    · have ek : k = nn := by omega
      have HA2 : Hid (A = mkB (joinW (nameB x.op :: opsW nn x))) := by show _ = _; rw [HA.out, ek]
      have hb4 := hb3.kept hg (by simp)
      have hG4 := grown_up hgg hg
      have hTr := hTW.keptN hg
      clear hb3 HA
      obtain ⟨c0, c1, c2, c3, c4, c5, c6⟩ := hb4.cs
      by_cases h1 : x.op = 1
      · have h1' : (x.op == 1) = true := by simp [h1]
        have Hok : Hid (x.v.s.size ≤ 10) := by
          have := Ho5.out
          rw [if_pos h1] at this
          unfold okC at this
          rw [Bool.and_eq_true] at this
          have h2 := of_decide_eq_true this.2
          exact h2
        have He : Hid (E = joinW (nameB x.op :: opsW nn x) ++ 32 :: valW x.v) := by
          show _ = _
          rw [← HEE.out]
          unfold lineI
          rw [HE.out, if_pos h1, joinW_snoc _ _ (by simp)]
        have Hvl : Hid ((valW x.v).length ≤ 21) := by
          show _ ≤ _
          unfold valW
          split
          · have := itoa_len x.v.n hv.n0 hv.n1; omega
          · rw [List.length_cons, hexL_len, show x.v.s.data.toList.length = x.v.s.size from Array.length_toList]
            have := Hok.out
            omega
        have hv2 := Hok.out
        clear h1
        obtain ⟨V, HV⟩ : ∃ V, Hid (x.v = V) := ⟨_, rfl⟩
        rw [HV.out] at c4 c5 c6 He hv s0 Hvl hv2
        obtain ⟨k', n', s'⟩ := V
        dsimp only at c4 c5 c6 s0 hv2
        go_wp2_with fail
        refine (rvalue14_any ⟨k', n', s'⟩ _ hv (by show s'.size ≤ _; omega) hTr).mono ?_
        rintro e w3 ⟨rfl, hg3⟩
        obtain ⟨S, HS⟩ : ∃ S : ByteArray, Hid (mkB (valW ⟨k', n', s'⟩) = S) := ⟨_, rfl⟩
        rw [HS.out]
        have hS20 : S.size ≤ 21 := by rw [← HS.out, mkB_size]; exact Hvl.out
        have t1 : ¬ 9223372036854775807 < 1 + S.size := by omega
        have t2 : ¬ 9223372036854775807 < A.size + (1 + S.size) := by omega
        have HF : Hid (A ++ (⟨#[32]⟩ ++ S) = mkB E) := by
          show _ = _
          rw [He.out, HA2.out, ← HS.out]
          show mkB _ ++ (mkB [32] ++ mkB _) = _
          rw [mkB_append, mkB_append]
          rfl
        go_wp2
        go_ret
        rw [← HF.out]
        exact ⟨rfl, grown_up hG4 hg3⟩
      · have h1' : (x.op == 1) = false := by simp [h1]
        have He : Hid (A = mkB E) := by
          show _ = _
          rw [HA2.out, ← HEE.out]
          unfold lineI
          rw [HE.out, if_neg h1, List.append_nil]
        clear h1
        go_wp2
        go_ret
        rw [← He.out]
        exact ⟨rfl, hG4⟩

end Go.Proofs.YtihfnnabafnmlaaGreatDoor
