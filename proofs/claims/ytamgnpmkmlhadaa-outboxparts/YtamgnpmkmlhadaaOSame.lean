/- Whether two rows of messages are the same, as the document's own text tells it: of equal ones. Conditions: those that each theorem states. -/
import Derived.Test.YtamgnpmkmlhadaaOBox
namespace Go.Proofs.Ytamgnpmkmlhadaa
open Go Go.RowKit
set_option linter.unusedVariables false

theorem run_neM (a b c d e : Int) (s : ByteArray) (w : World) : (binOp .neq 26 (.agg #[.int .i64 a, .int .i64 b, .int .i64 c, .int .i64 d, .int .i64 e, .string s]) (.agg #[.int .i64 a, .int .i64 b, .int .i64 c, .int .i64 d, .int .i64 e, .string s])).run Try.prog w = .ok (.bool false) w := by
  go_simp
theorem run_eqM (a b c d e : Int) (s : ByteArray) (w : World) : (binOp .eql 26 (.agg #[.int .i64 a, .int .i64 b, .int .i64 c, .int .i64 d, .int .i64 e, .string s]) (.agg #[.int .i64 a, .int .i64 b, .int .i64 c, .int .i64 d, .int .i64 e, .string s])).run Try.prog w = .ok (.bool true) w := by
  go_simp
set_option maxRecDepth 100000 in
set_option maxHeartbeats 1600000 in
theorem osame_any (u v : Value) (l : List Ms) (w : World) (hu : RwM w u l) (hv : RwM w v l) (hl : l.length ≤ 1000000) : Calls Try.prog 20 #[u, v] w fun e w' => e = .returned (.bool true) ∧ w.grownBy w' none := by
  obtain ⟨au, cu, rfl, _, _, hcu⟩ := hu
  obtain ⟨av, cv, rfl, _, _, hcv⟩ := hv
  have HU := hide hcu
  have HV := hide hcv
  clear hcu hcv
  obtain ⟨n, Hn⟩ : ∃ n, Hid (l.length = n) := ⟨_, rfl⟩
  rw [Hn.out] at hl ⊢
  have h0 : ((n : Int) != (n : Int)) = false := by simp
  go_enter Try.func20, Try.ntmps20
  go_wp2
  go_loopw [5] (fun t wr => ∃ i : Nat, i ≤ n ∧ t = .int .i64 i ∧ w.grownBy wr none) (fun t _ => n - (intOf t).toNat)
  case atStart => exact ⟨0, Nat.zero_le _, rfl, World.grownBy.refl _ _⟩
  case round =>
    obtain ⟨i, hi, rfl, hg⟩ := hrel
    by_cases hlt : i < n
    · have hii : (i : Int) < (n : Int) := by omega
      obtain ⟨bu, fu, eu, hbu, xu⟩ := HU.out i (by rw [Hn.out]; exact hlt)
      obtain ⟨bv, fv, ev, hbv, xv⟩ := HV.out i (by rw [Hn.out]; exact hlt)
      subst eu ev
      have hil : i < l.length := by rw [Hn.out]; exact hlt
      obtain ⟨m, Hm⟩ : ∃ m, Hid (l[i] = m) := ⟨_, hide rfl⟩
      rw [Hm.out] at xu xv
      have kp := Kp.ofN hg none'
      have u0 := kp.cell (xu 0 _ rfl) (fun h => h)
      have u1 := kp.cell (xu 1 _ rfl) (fun h => h)
      have u2 := kp.cell (xu 2 _ rfl) (fun h => h)
      have u3 := kp.cell (xu 3 _ rfl) (fun h => h)
      have u4 := kp.cell (xu 4 _ rfl) (fun h => h)
      have u5 := kp.cell (xu 5 _ rfl) (fun h => h)
      have v0 := kp.cell (xv 0 _ rfl) (fun h => h)
      have v1 := kp.cell (xv 1 _ rfl) (fun h => h)
      have v2 := kp.cell (xv 2 _ rfl) (fun h => h)
      have v3 := kp.cell (xv 3 _ rfl) (fun h => h)
      have v4 := kp.cell (xv 4 _ rfl) (fun h => h)
      have v5 := kp.cell (xv 5 _ rfl) (fun h => h)
      rw [Nat.add_zero] at u0 v0
      have hne := run_neM m.q m.f m.t m.v.k m.v.n m.v.s
      have HG := hide hg
      clear xu xv hg kp Hm
      go_upto_region 6 with fail
      go_quiet (fail)
      go_wp2
      go_roundw
      case rel => exact ⟨i + 1, by omega, by go_num, grown_up HG.out ⟨rfl, rfl, rfl, Nat.le_refl _, fun _ _ _ => rfl⟩⟩
      case measure => simp [intOf]; omega
    · have hii : ¬ (i : Int) < (n : Int) := by omega
      go_wp2
      go_ret
      exact ⟨rfl, hg⟩

end Go.Proofs.Ytamgnpmkmlhadaa
