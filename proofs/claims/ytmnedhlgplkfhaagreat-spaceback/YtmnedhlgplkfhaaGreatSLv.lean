/- Contract, over the turned program: lives of the laws of package space. Conditions: those that each theorem states. -/
import Derived.Test.YtmnedhlgplkfhaaGreatSWg
import Derived.Test.YtmnedhlgplkfhaaGreatSWt
import Derived.Test.YtmnedhlgplkfhaaGreatJS4
namespace Go.Proofs.YtmnedhlgplkfhaaGreat
open Go.RowKit
set_option linter.unusedVariables false

/-- Pages of noughts. -/
def zeroP (n : Nat) : List ByteArray := List.replicate n (fillB 0)
theorem zeroP_len (n : Nat) : (zeroP n).length = n := by simp [zeroP]
theorem zeroP_sz (n : Nat) : ∀ x ∈ zeroP n, x.size = 256 := fun x hx => by
  rw [List.eq_of_mem_replicate hx]
  exact fillB_size 0
theorem zeroP_at (n i : Nat) (hi : i < n) (d : ByteArray) : (zeroP n).getD i d = fillB 0 := by
  unfold zeroP
  rw [List.getD_eq_getElem?_getD, List.getElem?_replicate, if_pos hi]
  rfl
theorem bit_zero (i : Nat) : bitOf (fillB 0) i = false := by
  have e : byteAt (fillB 0) (i / 8) = 0 := by
    unfold byteAt fillB
    rw [List.getD_eq_getElem?_getD, List.getElem?_replicate]
    split <;> rfl
  unfold bitOf
  rw [e]
  simp
/-- At first no page but page 0 is used. -/
theorem Tk.begin (n : Nat) (h0 : 0 < n) (h1 : n ≤ 160) : Tk ⟨zeroP n, zeroP n, [], false⟩ n (fun _ => false) := by
  refine ⟨rfl, zeroP_len n, h0, h1, zeroP_sz n, fun i hi hin => ?_⟩
  show isU (zeroP n) i = false
  unfold isU pg0
  rw [zeroP_at n 0 h0, bit_zero]
  have : (i == 0) = false := by simpa using (by omega : i ≠ 0)
  rw [this]
  rfl
theorem lives_takes : ∃ S1 S2 S3 S4 : Sw, (⟨zeroP 4, zeroP 4, [], false⟩ : Sw).takeE = (1, 0) ∧ (⟨zeroP 4, zeroP 4, [], false⟩ : Sw).take (fillB 0) = S1 ∧ S1.takeE = (2, 0) ∧ S1.take (fillB 0) = S2 ∧ S2.dropE 1 = 0 ∧ S2.drop 1 = S3 ∧ S3.takeE = (1, 0) ∧ S3.take (fillB 0) = S4 ∧ S4.usedN = 3 := by
  have t0 := Tk.begin 4 (by omega) (by omega)
  obtain ⟨a1, t1⟩ := t0.take 1 (fillB 0) (by omega) (by omega) rfl (fun i h1 h2 => by omega) (fillB_size 0)
  have u12 : ∀ i, 0 < i → i < 2 → (i == 1 || false) = true := fun i h1 h2 => by
    have : i = 1 := by omega
    subst this
    rfl
  obtain ⟨a2, t2⟩ := t1.take 2 (fillB 0) (by omega) (by omega) rfl u12 (fillB_size 0)
  obtain ⟨a3, t3⟩ := t2.drop 1 (by omega) (by omega) rfl
  obtain ⟨a4, t4⟩ := t3.take 1 (fillB 0) (by omega) (by omega) rfl (fun i h1 h2 => by omega) (fillB_size 0)
  refine ⟨_, _, _, _, a1, rfl, a2, rfl, a3, rfl, a4, rfl, ?_⟩
  unfold Sw.usedN
  rw [t4.ov, t4.len]
  have u1 := t4.us 1 (by omega) (by omega)
  have u2 := t4.us 2 (by omega) (by omega)
  have u3 := t4.us 3 (by omega) (by omega)
  have e : List.range 4 = [0, 1, 2, 3] := rfl
  have u0 : ∀ l, isU l 0 = true := fun _ => rfl
  rw [e]
  simp only [List.filter_cons, u0, u1, u2, u3]
  rfl
set_option maxRecDepth 100000 in
set_option maxHeartbeats 1600000 in
theorem slives_any (w : World) : Calls Tryz.prog 7 #[] w fun e w' => e = .returned (.bool true) ∧ Kp none' w w' := by
  have hfr := sfresh_any 4 w (by omega) (by omega)
  rw [show (((4 : Nat) : Int)) = 4 from rfl] at hfr
  have HFR := hide hfr
  clear hfr
  have HBG : Hid (∀ (w1 : World) (q : Cq) (D : Dv), q.n = 4 → Kp none' w w1 → Cas w1 q (fun k => w.heap.size ≤ k) D (fun _ => fillB 0) 0 0 [] 0 0 → Calls Tryz.prog 21 #[.pointer (some ⟨q.c, 0, none⟩)] w1 fun e w' => ∃ r V c, e = .returned (.tuple #[.pointer (some ⟨r, 0, none⟩), .int .i64 0]) ∧ Wk w' r V c 0 ⟨zeroP 4, zeroP 4, [], false⟩ ∧ (∀ k, V k → w.heap.size ≤ k) ∧ Kp none' w w') := fun w1 q D hq hk hC => by
    have hC' : Cst w1 q (fun k => w.heap.size ≤ k) D (fun _ => fillB 0) 0 0 ⟨[], 0, 0⟩ := hC
    refine (sbegin_any hC' (zeroP 4) (by rw [zeroP_len, hq]) (by omega) (by omega) (fun i hi => by rw [zeroP_at 4 i (by omega)]) (zeroP_sz 4) (by show 0 + 0 ≤ _; omega)).mono ?_
    rintro e w' ⟨r, rfl, F', V, s', a1, a2, a3⟩
    refine ⟨r, V, q.c, rfl, a1, fun k h => ?_, hk.trans a2.k (fun _ _ h => h) (fun k hk h => absurd h (by omega))⟩
    have := (a3 k h).1
    have := hk.size
    omega
  obtain ⟨S1, S2, S3, S4, e1, e2, e3, e4, e5, e6, e7, e8, e9⟩ := lives_takes
  have HTK : Hid (∀ (w1 : World) (r : Nat) (V : Nat → Prop) (c m : Nat) (S T : Sw) (a b : Int), m ≤ 100 → Wk w1 r V c m S → (∀ k, V k → w.heap.size ≤ k) → Kp none' w w1 → S.takeE = (a, b) → S.take (fillB 0) = T → Calls Tryz.prog 27 #[.pointer (some ⟨r, 0, none⟩)] w1 fun e w' => e = .returned (.tuple #[.int .i64 a, .int .i64 b]) ∧ Wk w' r (fun k => w.heap.size ≤ k) c (m + 2) T ∧ Kp none' w w') := fun w1 r V c m S T a b hm hW hV hk ha hT => by
    have := stake_any r V c m S w1 hW (by omega)
    rw [ha, hT] at this
    refine this.mono ?_
    rintro e w' ⟨rfl, b1, b2⟩
    refine ⟨rfl, b1.mono (fun k _ h => ?_) (Nat.le_refl _), hk.trans b2 (fun _ _ h => h) (fun k h1 h2 => absurd (hV k h2) (by omega))⟩
    rcases h with h | h
    · exact hV k h
    · exact Nat.le_trans hk.size h
  have HDR : Hid (∀ (w1 : World) (r c m : Nat), m ≤ 100 → Wk w1 r (fun k => w.heap.size ≤ k) c m S2 → Kp none' w w1 → Calls Tryz.prog 29 #[.pointer (some ⟨r, 0, none⟩), .int .i64 1] w1 fun e w' => e = .returned (.int .i64 0) ∧ Wk w' r (fun k => w.heap.size ≤ k) c (m + 1) S3 ∧ Kp none' w w') := fun w1 r c m hm hW hk => by
    have := sdrop_any r 1 _ c m S2 w1 hW (by omega)
    rw [e5, e6] at this
    refine this.mono ?_
    rintro e w' ⟨rfl, b1, b2⟩
    refine ⟨rfl, b1.mono (fun k _ h => ?_) (Nat.le_refl _), hk.trans b2 (fun _ _ h => h) (fun k h1 h2 => absurd h2 (by omega))⟩
    rcases h with h | h
    · exact h
    · exact Nat.le_trans hk.size h
  have HUS : Hid (∀ (w1 : World) (r c m : Nat), Wk w1 r (fun k => w.heap.size ≤ k) c m S4 → Calls Tryz.prog 12 #[.pointer (some ⟨r, 0, none⟩)] w1 fun e w' => e = .returned (.int .i64 3) ∧ w' = w1) := fun w1 r c m hW => by
    have := susedN_any r _ c m S4 w1 hW
    rw [e9] at this
    exact this
  have H1 := hide e1
  have H2 := hide e2
  have H3 := hide e3
  have H4 := hide e4
  have H7 := hide e7
  have H8 := hide e8
  clear e1 e2 e3 e4 e5 e6 e7 e8 e9
  go_enter Tryz.func7, Tryz.ntmps7
  go_upto_region 5 with (first
    | (go_at_call 32; refine HFR.out.mono ?_; rintro e w1 ⟨q, D, rfl, hq1, hq2, hst, hC1, hk1⟩)
    | (go_at_call 21; refine (HBG.out w1 q D hq1 hk1 hC1).mono ?_; rintro e w2 ⟨r, V, c, rfl, hW2, hV2, hk2⟩)
    | (go_at_call 27; refine (HTK.out w2 r V c 0 _ S1 1 0 (by omega) hW2 hV2 hk2 H1.out H2.out).mono ?_; rintro e w3 ⟨rfl, hW3, hk3⟩)
    | fail)
  go_upto_region 6 with (first
    | (go_at_call 27; refine (HTK.out w3 r _ c _ S1 S2 2 0 (by omega) hW3 (fun _ h => h) hk3 H3.out H4.out).mono ?_; rintro e w4 ⟨rfl, hW4, hk4⟩)
    | fail)
  go_wp2_with (first
    | (go_at_call 29; refine (HDR.out w4 r c _ (by omega) hW4 hk4).mono ?_; rintro e w5 ⟨rfl, hW5, hk5⟩)
    | (go_at_call 27; refine (HTK.out w5 r _ c _ S3 S4 1 0 (by omega) hW5 (fun _ h => h) hk5 H7.out H8.out).mono ?_; rintro e w6 ⟨rfl, hW6, hk6⟩)
    | (go_at_call 12; refine (HUS.out w6 r c _ hW6).mono ?_; rintro e w' ⟨rfl, hw'⟩; obtain rfl := hw'.symm)
    | fail)
  go_ret
  exact ⟨rfl, hk6⟩

end Go.Proofs.YtmnedhlgplkfhaaGreat
