/- Contract, over the turned program: the document's Registers tells which registers an instruction names. Conditions: those that each theorem states. -/
import Derived.Test.YtnldjloiafilmaaDoorQC
namespace Go.Proofs.YtnldjloiafilmaaDoor
open Go.RowKit
set_option linter.unusedVariables false

/-- What the first k operands come to. -/
def rgK (x : In) (k : Nat) : List Int := if skipA x.op then ([x.a, x.b, x.c].take k).drop 1 else [x.a, x.b, x.c].take k
theorem rgK_all (x : In) (n : Nat) (hn : nOps x.op = n) : rgK x n = regsI x := by unfold rgK regsI opL; rw [hn]
theorem rgK_step (x : In) (k : Nat) (hk : k < 3) (h : 0 < k ∨ skipA x.op = false) : rgK x (k + 1) = rgK x k ++ [x.fl k] := by
  unfold rgK
  rcases (by omega : k = 0 ∨ k = 1 ∨ k = 2) with rfl | rfl | rfl
  · have h' : skipA x.op = false := by rcases h with h | h; exact absurd h (by omega); exact h
    rw [h']
    rfl
  · cases skipA x.op <;> rfl
  · cases skipA x.op <;> rfl
theorem rgK_stay (x : In) (h : skipA x.op = true) : rgK x 1 = rgK x 0 := by unfold rgK; rw [h]; rfl
theorem rgK_zero (x : In) : rgK x 0 = [] := by unfold rgK; split <;> rfl
theorem rgK_len (x : In) (k : Nat) : (rgK x k).length ≤ 3 := by
  unfold rgK
  split
  · simp; omega
  · simp; omega
theorem fl_new (w : World) (x : In) (k : Nat) (hk : k < 3) (g : Nat) (hg : w.heap.size = g) : (w.alloc (.cells #[.int .i64 x.a, .int .i64 x.b, .int .i64 x.c] 3)).cell? ⟨g, k, none⟩ = some (.int .i64 (x.fl k)) := by
  subst hg
  rcases (by omega : k = 0 ∨ k = 1 ∨ k = 2) with rfl | rfl | rfl <;> (simp; rfl)

set_option maxRecDepth 100000 in
set_option maxHeartbeats 1000000 in
theorem qrregs_any (x : In) (w : World) :
    Calls Tryd.prog 30 #[x.val] w fun e w' => ∃ v', e = .returned v' ∧ Sl (Value.int .i64) w'.heap.size w' v' (regsI x) ∧ w.grownBy w' none := by
  have hb := Ib.new w x
  have hg0 := World.grownBy_alloc w (.cells #[.int .i64 x.op, .int .i64 x.a, .int .i64 x.b, .int .i64 x.c, .int .i64 x.v.k, .int .i64 x.v.n, .string x.v.s] 41) none
  have Hop := hide (nOpI_eq x.op)
  obtain ⟨n, HN⟩ : ∃ n, Hid (nOps x.op = n) := ⟨_, rfl⟩
  have hn3 : n ≤ 3 := by have := HN.out; have := nOps_le x.op; omega
  have HR := hide (rgK_all x n HN.out)
  rw [← HR.out]
  obtain ⟨c0, c1, c2, c3, c4, c5, c6⟩ := hb.cs
  have HF : Hid (∀ k, k < 3 → ((w.alloc (.cells #[.int .i64 x.op, .int .i64 x.a, .int .i64 x.b, .int .i64 x.c, .int .i64 x.v.k, .int .i64 x.v.n, .string x.v.s] 41)).alloc (.cells #[.int .i64 x.a, .int .i64 x.b, .int .i64 x.c] 3)).cell? ⟨w.heap.size + 1, k, none⟩ = some (.int .i64 (x.fl k))) := fun k hk => fl_new _ x k hk _ (by simp)
  have hga := World.grownBy_alloc (w.alloc (.cells #[.int .i64 x.op, .int .i64 x.a, .int .i64 x.b, .int .i64 x.c, .int .i64 x.v.k, .int .i64 x.v.n, .string x.v.s] 41)) (.cells #[.int .i64 x.a, .int .i64 x.b, .int .i64 x.c] 3) none
  have hb1 := hb.kept hga (by simp)
  have hgx := grown_up hg0 hga
  have Hs0 : Hid (((w.alloc (.cells #[.int .i64 x.op, .int .i64 x.a, .int .i64 x.b, .int .i64 x.c, .int .i64 x.v.k, .int .i64 x.v.n, .string x.v.s] 41)).alloc (.cells #[.int .i64 x.a, .int .i64 x.b, .int .i64 x.c] 3)).heap.size = w.heap.size + 1 + 1) := by show _ = _; simp
  have HSK := hide (skip_cases x.op)
  unfold In.val
  go_enter Tryd.func30, Tryd.ntmps30
  go_wp2_with (go_at_call 60; refine (roperands_any x.op _).mono ?_; rintro e w1 ⟨rfl, hw1⟩; obtain rfl := hw1.symm; rw [Hop.out, HN.out])
  clear c0 c1 c2 c3 c4 c5 c6 hb hg0 hga
  generalize ((w.alloc (.cells #[.int .i64 x.op, .int .i64 x.a, .int .i64 x.b, .int .i64 x.c, .int .i64 x.v.k, .int .i64 x.v.n, .string x.v.s] 41)).alloc (.cells #[.int .i64 x.a, .int .i64 x.b, .int .i64 x.c] 3)) = W0 at *
  go_loopw [6, 7] (fun v t wr => ∃ (k : Nat) (u : Value), k ≤ n ∧ t = .int .i64 k ∧ u = v ∧ Ow (Value.int .i64) 3 wr W0.heap.size u (rgK x k) ∧ W0.grownBy wr none) (fun _ t _ => n - (intOf t).toNat)
  case atStart => exact ⟨0, _, Nat.zero_le _, rfl, rfl, by rw [rgK_zero]; exact Ow.nil _ _ _ _, ⟨rfl, rfl, rfl, Nat.le_refl _, fun _ _ _ => rfl⟩⟩
  case round =>
    obtain ⟨k, v6, hkn, rfl, rfl, hO, hK⟩ := hrel
    have hbr := hb1.kept hK (by simp)
    obtain ⟨c0, c1, c2, c3, c4, c5, c6⟩ := hbr.cs
    by_cases hlt : k < n
    · have hki : (k : Int) < (n : Int) := by omega
      have hcf := HF.out k (by omega)
      have hcl := lt_of_cell hcf
      have hck : wr.cell? ⟨w.heap.size + 1, k, none⟩ = some (.int .i64 (x.fl k)) := (cell_same (hK.block _ hcl (by simp)) k).trans hcf
      have Hlt := hide (fun j h => hO.lt j h)
      have hsz := hK.size
      obtain ⟨v8, w8, hr8, hO8, hg8, _⟩ := app_one wr W0.heap.size v6 _ (x.fl k) wr.heap.size rfl hO hsz (Nat.le_trans (rgK_len x k) (by omega))
      have hK8 : W0.grownBy w8 none := grown_new (grown_up hK (World.grownBy_alloc _ _ _)) hg8 (fun j hj => (Hlt.out j hj).1)
      clear hcf hcl hg8
      by_cases h0 : k = 0
      · subst h0
        rcases HSK.out with h | ⟨h, h'⟩ | ⟨h, h', h''⟩ | ⟨h, h', h''⟩
        · have HS8 : Hid (rgK x 1 = rgK x 0) := rgK_stay x (by unfold skipA; rw [beq_yes h]; rfl)
          have t1 : (x.op != 9) = false := by simp [h]
          clear hO8 hK8 hr8 h
          go_wp2
          go_roundw
          case rel => exact ⟨1, _, by omega, by go_num, rfl, by rw [HS8.out]; exact hO, hK⟩
          case measure => simp [intOf]; omega
        · have HS8 : Hid (rgK x 1 = rgK x 0) := rgK_stay x (by unfold skipA; rw [beq_yes h', Bool.or_true]; rfl)
          have t1 : (x.op != 9) = true := by simp [h]
          have t2 : (x.op != 10) = false := by simp [h']
          clear hO8 hK8 hr8 h h'
          go_wp2
          go_roundw
          case rel => exact ⟨1, _, by omega, by go_num, rfl, by rw [HS8.out]; exact hO, hK⟩
          case measure => simp [intOf]; omega
        · have HS8 : Hid (rgK x 1 = rgK x 0) := rgK_stay x (by unfold skipA; rw [beq_yes h'', Bool.or_true])
          have t1 : (x.op != 9) = true := by simp [h]
          have t2 : (x.op != 10) = true := by simp [h']
          have t3 : (x.op != 16) = false := by simp [h'']
          clear hO8 hK8 hr8 h h' h''
          go_wp2
          go_roundw
          case rel => exact ⟨1, _, by omega, by go_num, rfl, by rw [HS8.out]; exact hO, hK⟩
          case measure => simp [intOf]; omega
        · have HS8 : Hid (rgK x (0 + 1) = rgK x 0 ++ [x.fl 0]) := rgK_step x 0 (by omega) (.inr (by unfold skipA; rw [beq_no h, beq_no h', beq_no h'']; rfl))
          have t1 : (x.op != 9) = true := by simp [h]
          have t2 : (x.op != 10) = true := by simp [h']
          have t3 : (x.op != 16) = true := by simp [h'']
          clear h h' h''
          go_wp2_with (at_builtin; refine iwpList_app_at rfl (.tmp 43) (.tmp 48) 55 55 rfl _ _ rfl rfl hr8 ?_)
          go_roundw
          case rel => exact ⟨1, _, by omega, by go_num, rfl, by rw [HS8.out]; exact hO8, hK8⟩
          case measure => simp [intOf]; omega
      · have HS8 : Hid (rgK x (k + 1) = rgK x k ++ [x.fl k]) := rgK_step x k (by omega) (.inl (by omega))
        have hk0 : (0 : Int) < (k : Int) := by omega
        go_wp2_with (at_builtin; refine iwpList_app_at rfl (.tmp 43) (.tmp 48) 55 55 rfl _ _ rfl rfl hr8 ?_)
        go_roundw
        case rel => exact ⟨k + 1, _, by omega, by go_num, rfl, by rw [HS8.out]; exact hO8, hK8⟩
        case measure => simp [intOf]; omega
    · obtain rfl : k = n := by omega
      go_wp2
      go_ret
      exact ⟨_, rfl, hO.sl, grown_up hgx hK⟩

end Go.Proofs.YtnldjloiafilmaaDoor
