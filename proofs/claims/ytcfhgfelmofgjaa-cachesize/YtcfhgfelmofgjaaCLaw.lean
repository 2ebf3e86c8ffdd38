/- What a cache keeps behind reads, told plainly; a cache's Read by it; the laws' lives and fill. Conditions: those that each theorem states. -/
import Derived.Test.YtcfhgfelmofgjaaCNew
namespace Go.Proofs.Ytcfhgfelmofgjaa
open Go.RowKit
open Go.ChangeMaps (setBlock)
set_option linter.unusedVariables false

/-- Which pages are kept, how many hits and misses there were. -/
structure St where
  K : List Int
  h : Nat
  m : Nat
/-- There is such a page. -/
def inR (n : Nat) (z : Int) : Bool := decide (0 ≤ z ∧ z < (n : Int))
theorem inR_iff {n : Nat} {z : Int} : inR n z = true ↔ 0 ≤ z ∧ z < (n : Int) := by simp [inR]
def St.use (sz n : Nat) (s : St) (z : Int) : St := if inR n z then (if z ∈ s.K then ⟨Go.Proofs.Ytcfhgfelmofgjaa.use sz s.K z, s.h + 1, s.m⟩ else ⟨Go.Proofs.Ytcfhgfelmofgjaa.use sz s.K z, s.h, s.m + 1⟩) else s
def St.run (sz n : Nat) (l : List Int) : St := l.foldl (St.use sz n) ⟨[], 0, 0⟩
theorem St.run_snoc (sz n : Nat) (l : List Int) (z : Int) : St.run sz n (l ++ [z]) = (St.run sz n l).use sz n z := by simp [St.run]
theorem St.sum {sz n : Nat} (s : St) (z : Int) : (s.use sz n z).h + (s.use sz n z).m = s.h + s.m + (if inR n z then 1 else 0) := by
  unfold St.use
  by_cases h : inR n z = true
  · rw [if_pos h, if_pos h]
    split <;> (dsimp only; omega)
  · rw [if_neg h, if_neg h]
    omega
theorem St.lim (sz n : Nat) (l : List Int) : (St.run sz n l).h + (St.run sz n l).m ≤ l.length := by
  suffices ∀ (l : List Int) (s : St), (l.foldl (St.use sz n) s).h + (l.foldl (St.use sz n) s).m ≤ s.h + s.m + l.length by
    have := this l ⟨[], 0, 0⟩
    simpa [St.run] using this
  intro l
  induction l with
  | nil => intro s; exact Nat.le_refl _
  | cons z l ih =>
    intro s
    have := ih (s.use sz n z)
    have h2 := St.sum (sz := sz) (n := n) s z
    rw [List.foldl_cons, List.length_cons]
    split at h2 <;> omega
/-- What Read tells: the bytes, the error. -/
def rdCS (n : Nat) (Q : Nat → ByteArray) (z : Int) : ByteArray := if inR n z then Q z.toNat else ⟨#[]⟩
def rdCE (n : Nat) (z : Int) : Int := if inR n z then 0 else 7
/-- A cache in the state s. -/
def Cst (w : World) (q : Cq) (F : Nat → Prop) (D : Dv) (Q : Nat → ByteArray) (M cm : Int) (s : St) : Prop := Cas w q F D Q M cm s.K (s.h : Int) (s.m : Int)
theorem cread_any {w : World} {q : Cq} {F : Nat → Prop} {D : Dv} {Q : Nat → ByteArray} {M cm : Int} {s : St} (H : Cst w q F D Q M cm s) (hb : s.h + s.m ≤ 1000000000) (z : Int) :
    Calls Try.prog 9 #[.pointer (some ⟨q.c, 0, none⟩), .int .i64 z] w fun e w' => e = .returned (.tuple #[.string (rdCS q.n Q z), .int .i64 (rdCE q.n z)]) ∧ Cst w' q (fun j => F j ∨ w.heap.size ≤ j) D Q M cm (s.use q.sz q.n z) ∧ Kp F w w' := by
  by_cases hz : inR q.n z = true
  · have hz' := inR_iff.1 hz
    unfold rdCS rdCE St.use
    rw [if_pos hz, if_pos hz, if_pos hz]
    by_cases hk : z ∈ s.K
    · rw [if_pos hk]
      refine (cread_hit H (by omega) (by omega) z hk).mono ?_
      rintro e w' ⟨_, rfl, h1, h2⟩
      refine ⟨rfl, ?_, h2⟩
      exact Cas.mono h1 (fun k _ h => .inl h)
    · rw [if_neg hk]
      obtain ⟨k, rfl⟩ : ∃ k : Nat, z = (k : Int) := ⟨z.toNat, by omega⟩
      refine (cread_miss H (by omega) (by omega) k (by omega) hk).mono ?_
      rintro e w' ⟨rfl, h1, h2⟩
      exact ⟨rfl, h1, h2⟩
  · unfold rdCS rdCE St.use
    rw [if_neg hz, if_neg hz, if_neg hz]
    refine (cread_bad H z (fun h => hz (inR_iff.2 h))).mono ?_
    rintro e w' ⟨rfl, rfl⟩
    exact ⟨rfl, Cas.mono H (fun k _ h => .inl h), Kp.refl _ _⟩
theorem lives_end : St.run 2 4 [1, 2, 1, 3, 1] = ⟨[1, 3], 2, 3⟩ := by kernel_rfl
theorem new_ints (w : World) (l : List Int) (t : TypeId) (hl : l.length ≤ 1000) : Sl (Value.int .i64) (w.heap.size + 1) (w.alloc (.cells (l.map (Value.int .i64)).toArray t)) (.slice (some ⟨w.heap.size, 0, none⟩) l.length l.length) l := by
  refine ⟨some ⟨w.heap.size, 0, none⟩, l.length, rfl, Nat.le_refl _, by unfold maxLen; omega, fun i hi => ⟨w.heap.size, 0, rfl, Nat.lt_succ_self _, ?_⟩⟩
  rw [Nat.zero_add]
  exact new_cell _ _ _ _ _ (by simp [hi])
set_option maxRecDepth 100000 in
set_option maxHeartbeats 1600000 in
theorem clives_any (w : World) : Calls Try.prog 5 #[] w fun e w' => e = .returned (.bool true) ∧ Kp none' w w' := by
  have HOP := hide (opened_any 4 w (by omega) (by omega))
  rw [show (((4 : Nat) : Int)) = 4 from rfl] at HOP
  go_enter Try.func5, Try.ntmps5
  go_upto_region 4 with (first
    | (go_at_call 8; refine HOP.out.mono ?_; rintro e w1 ⟨p, D, g, rfl, hR1, hst, hP1, hg1, hm1, hk1⟩)
    | (go_at_call 7; refine (cnew_any 2 hR1 hst hP1 (by omega) (fun _ => fillB_size 0)).mono ?_; rintro e w2 ⟨q, rfl, hqn, hqs, _, _, hC2, hk2⟩)
    | fail)
  have hC0 : Cst w2 q (fun k => w.heap.size ≤ k ∧ k ≠ w2.heap.size) D (fun _ => fillB 0) 0 0 (St.run 2 4 []) := Cas.mono hC2 (fun k hk h => ⟨by
    rcases h with h | h | h
    · exact hm1 k h
    · rw [h]; exact hg1
    · exact Nat.le_trans hk1.size h, by omega⟩)
  obtain ⟨X, HX⟩ : ∃ X, Hid (fillB 0 = X) := ⟨_, rfl⟩
  have hXs : X.size = 256 := by rw [← HX.out]; exact fillB_size 0
  have hX2 : (((X.size : Nat) : Int) != 256) = false := by rw [hXs]; rfl
  obtain ⟨lst, HL⟩ : ∃ lst : List Int, Hid ([1, 2, 1, 3, 1] = lst) := ⟨_, rfl⟩
  have hll : lst.length = 5 := by rw [← HL.out]; rfl
  have HIN : Hid (∀ j (h : j < lst.length), inR 4 lst[j] = true) := by
    have hl := HL.out
    subst hl
    show ∀ j (h : j < 5), inR 4 ([1, 2, 1, 3, 1] : List Int)[j] = true
    decide
  have HE : Hid (St.run 2 4 lst = ⟨[1, 3], 2, 3⟩) := by show _ = _; rw [← HL.out]; exact lives_end
  have hsl : ∀ j (h : j < lst.length), (w2.alloc (.cells (lst.map (Value.int .i64)).toArray 3)).cell? ⟨w2.heap.size, j, none⟩ = some (.int .i64 lst[j]) := fun j h => new_cell _ _ _ _ _ (by simp [h])
  have hal : (w2.alloc (.cells (lst.map (Value.int .i64)).toArray 3)) = w2.alloc (.cells #[.int .i64 1, .int .i64 2, .int .i64 1, .int .i64 3, .int .i64 1] 3) := by rw [← HL.out]; rfl
  rw [hal] at hsl
  have k3 := Kp.alloc none' w2 (.cells #[.int .i64 1, .int .i64 2, .int .i64 1, .int .i64 3, .int .i64 1] 3)
  have s3 : (w2.alloc (.cells #[.int .i64 1, .int .i64 2, .int .i64 1, .int .i64 3, .int .i64 1] 3)).heap.size = w2.heap.size + 1 := by simp
  have hC3 := Cas.keptN hC0 k3
  have K3 := (hk1.then hk2).then k3
  obtain ⟨b, HB⟩ : ∃ b, Hid (w2.heap.size = b) := ⟨_, rfl⟩
  rw [HB.out] at hsl hC3 s3
  go_upto_region 5 with fail
  obtain ⟨W3, H3⟩ : ∃ W3, Hid (w2.alloc (.cells #[.int .i64 1, .int .i64 2, .int .i64 1, .int .i64 3, .int .i64 1] 3) = W3) := ⟨_, rfl⟩
  rw [H3.out] at hsl hC3 K3 s3 ⊢
  rw [HB.out]
  have hbw : w.heap.size ≤ b := by have := HB.out; have := hk1.size; have := hk2.size; omega
  clear hC0 hC2 hk2 k3 hal hR1 hP1 hk1
  go_wp2
  go_loopw [3] (fun t wr => ∃ j : Nat, j ≤ 5 ∧ t = .int .i64 j ∧ Cst wr q (fun k => w.heap.size ≤ k ∧ k ≠ b) D (fun _ => fillB 0) 0 0 (St.run 2 4 (lst.take j)) ∧ Hid (∀ j (h : j < lst.length), wr.cell? ⟨b, j, none⟩ = some (.int .i64 lst[j])) ∧ b < wr.heap.size ∧ Kp none' w wr) (fun t _ => 5 - (intOf t).toNat)
  case atStart => exact ⟨0, Nat.zero_le _, rfl, by rw [List.take_zero]; exact hC3, hsl, by omega, K3⟩
  case round =>
    obtain ⟨j, hj, rfl, hC, hS, hbr, hK⟩ := hrel
    clear hC3 hsl K3
    by_cases hlt : j < 5
    · have hji : (j : Int) < 5 := by omega
      have hjl : j < lst.length := by omega
      have hcj := hS.out j hjl
      have hz := HIN.out j hjl
      obtain ⟨z, HZ⟩ : ∃ z, Hid (lst[j] = z) := ⟨_, hide rfl⟩
      rw [HZ.out] at hcj hz
      have HT : Hid (lst.take (j + 1) = lst.take j ++ [z]) := by show _ = _; rw [List.take_succ_eq_append_getElem hjl, HZ.out]
      have hlim := St.lim 2 4 (lst.take j)
      rw [List.length_take] at hlim
      have hrd := cread_any hC (by omega) z
      have e1 : rdCS q.n (fun _ => fillB 0) z = X := by unfold rdCS; rw [hqn, if_pos hz, HX.out]
      have e2 : rdCE q.n z = 0 := by unfold rdCE; rw [hqn, if_pos hz]
      have e3 : (St.run 2 4 (lst.take j)).use q.sz q.n z = St.run 2 4 (lst.take (j + 1)) := by rw [HT.out, St.run_snoc, hqn, hqs]; rfl
      rw [e1, e2, e3] at hrd
      clear e1 e2 e3 hC
      have HRD := hide hrd
      clear hrd
      go_wp2_with (first
        | (go_at_call 9; refine HRD.out.mono ?_; rintro e w4 ⟨rfl, hC4, hk4⟩)
        | fail)
      go_roundw
      case rel => exact ⟨j + 1, by omega, by go_num, Cas.mono hC4 (fun k _ h => by
          rcases h with h | h
          · exact h
          · exact ⟨Nat.le_trans hK.size h, by omega⟩), fun i hi => hk4.cell (hS.out i hi) (fun h => h.2 rfl), Nat.lt_of_lt_of_le hbr hk4.size, hK.trans hk4 (fun _ _ h => h) (fun k hk h => absurd h.1 (by omega))⟩
      case measure => simp [intOf]; omega
    · obtain rfl : j = 5 := by omega
      rw [List.take_of_length_le (by omega), HE.out] at hC
      have hhi := chits_any hC
      have hmi := cmisses_any hC
      have hke := ckept_any hC
      rw [show (((2 : Nat) : Int)) = 2 from rfl] at hhi
      rw [show (((3 : Nat) : Int)) = 3 from rfl] at hmi
      have HSM : Hid (∀ (W : World) (v : Value), Ow (Value.int .i64) 3 W wr.heap.size v [1, 3] → Calls Try.prog 11 #[v, .slice (some ⟨W.heap.size, 0, none⟩) 2 2] (W.alloc (.cells #[.int .i64 1, .int .i64 3] 3)) fun e w' => e = .returned (.bool true) ∧ Kp none' (W.alloc (.cells #[.int .i64 1, .int .i64 3] 3)) w') := fun W v hO =>
        sameInts_sl v _ [1, 3] _ _ _ (hO.keptN (Kp.alloc none' W _)).sl (new_ints W [1, 3] 3 (by simp)) (by simp)
      have hpa : ∀ W : World, Kp none' wr W → Calls Try.prog 14 #[.pointer (some ⟨q.c, 0, none⟩)] W fun e w' => e = .returned (.int .i64 4) ∧ w' = W := fun W hW => by
        have := cpages_any (Cas.keptN hC hW)
        rw [hqn] at this
        exact this
      have HPA := hide hpa
      have HKE := hide hke
      clear hpa hke hC
      go_wp2_with (first
        | (go_at_call 12; refine hhi.mono ?_; rintro e w' ⟨rfl, rfl⟩)
        | (go_at_call 13; refine hmi.mono ?_; rintro e w' ⟨rfl, rfl⟩)
        | (go_at_call 10; refine HKE.out.mono ?_; rintro e w5 ⟨v5, rfl, hO5, hk5⟩; obtain ⟨a5, c5, rfl, _⟩ := hO5.open)
        | (go_at_call 11; refine (HSM.out _ _ hO5).mono ?_; rintro e w6 ⟨rfl, hk6⟩)
        | (go_at_call 14; refine (HPA.out _ ((hk5.then (Kp.alloc none' w5 _)).then hk6)).mono ?_; rintro e w' ⟨rfl, rfl⟩)
        | fail)
      go_ret
      exact ⟨rfl, ((hK.then hk5).then (Kp.alloc none' w5 _)).then hk6⟩

end Go.Proofs.Ytcfhgfelmofgjaa
