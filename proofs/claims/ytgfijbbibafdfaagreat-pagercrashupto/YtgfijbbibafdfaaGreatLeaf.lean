/- Contracts, over the turned program: pack's width brings any k to 1 to 8; pack.Num appends the low bytes of any number to bytes that the call itself owns. Conditions: those that each theorem states. -/
import Derived.Test.YtgfijbbibafdfaaGreatProg
import Derived.Test.YtgfijbbibafdfaaGreatBytes
import Derived.WalkLawsBesides
import Derived.Outline
namespace Go.Proofs.YtgfijbbibafdfaaGreat
open Go.RowKit
set_option linter.unusedVariables false

def wid (k : Int) : Nat := if k < 1 then 1 else if 8 < k then 8 else k.toNat
theorem wid_lo (k : Int) : 1 ≤ wid k := by unfold wid; split <;> (try split) <;> omega
theorem wid_hi (k : Int) : wid k ≤ 8 := by unfold wid; split <;> (try split) <;> omega

set_option maxHeartbeats 400000 in
theorem width_any (k : Int) (w : World) :
    Calls Tryz.prog 71 #[.int .i64 k] w fun e w' => e = .returned (.int .i64 (wid k : Int)) ∧ w' = w := by
  by_cases h1 : k < 1
  · have hw : ((wid k : Nat) : Int) = 1 := by unfold wid; simp [h1]
    rw [hw]
    clear hw
    go_enter Tryz.func71, Tryz.ntmps71
    go_wp2
    go_ret
    exact ⟨rfl, rfl⟩
  · by_cases h8 : 8 < k
    · have hw : ((wid k : Nat) : Int) = 8 := by unfold wid; simp [h1, h8]
      rw [hw]
      clear hw
      go_enter Tryz.func71, Tryz.ntmps71
      go_wp2
      go_ret
      exact ⟨rfl, rfl⟩
    · have hw : ((wid k : Nat) : Int) = k := by unfold wid; simp [h1, h8]; omega
      rw [hw]
      clear hw
      go_enter Tryz.func71, Tryz.ntmps71
      go_wp2
      go_ret
      exact ⟨rfl, rfl⟩

theorem Tryz.info5 : (Tryz.prog.info? 5).map (fun i => (i.zero, i.size, i.bytes)) = some (some (.int .u8 0), 1, 1) := by kernel_rfl

/-- The low m bytes of n, the highest first. -/
def be (n : Nat) : Nat → List UInt8
  | 0 => []
  | m + 1 => UInt8.ofNat (n / 2 ^ (8 * m)) :: be n m
theorem be_len (n m : Nat) : (be n m).length = m := by
  induction m with
  | zero => rfl
  | succ m ih => simp [be, ih]
theorem be_val (n m : Nat) : (n : Int) / 2 ^ (8 * m) % 256 = ((UInt8.ofNat (n / 2 ^ (8 * m))).toNat : Int) := by
  rw [UInt8.toNat_ofNat']
  simp

set_option maxRecDepth 100000 in
set_option maxHeartbeats 400000 in
theorem num_any (v : Value) (l : List UInt8) (n : Nat) (k : Int) (base : Nat) (w : World) (hn : (n : Int) < 18446744073709551616) (hown : Own 5 w base v l) (hb : base ≤ w.heap.size) (hl : l.length ≤ 140737488355300) :
    Calls Tryz.prog 64 #[v, .int .u64 n, .int .i64 k] w fun e w' => ∃ v', e = .returned v' ∧ Own 5 w' base v' (l ++ be n (wid k)) ∧ Fr w v w' v' := by
  have hlo := wid_lo k
  have hhi := wid_hi k
  obtain ⟨i0, hi, hz0, hz1, hz2⟩ := info_parts Tryz.info5
  have Hl : Hid (l.length ≤ 140737488355300) := hl
  have Hn : Hid ((n : Int) < 18446744073709551616) := hn
  clear hl hn
  go_enter Tryz.func64, Tryz.ntmps64
  go_wp2_with (go_at_call 71; refine (width_any _ _).mono ?_; rintro e w' ⟨rfl, hw⟩; rw [hw]; clear hw w')
  go_loopw [0, 7] (fun b i wr => ∃ j : Nat, j ≤ wid k ∧ i = .int .i64 ((j : Int) - 1) ∧ ∃ pre : List UInt8, Own 5 wr base b (l ++ pre) ∧ Hid (pre ++ be n j = be n (wid k)) ∧ Fr w v wr b) (fun _ i _ => (intOf i + 1).toNat)
  case atStart => exact ⟨wid k, Nat.le_refl _, rfl, [], by simpa using hown, rfl, Fr.refl _ _⟩
  case round =>
    obtain ⟨j, hj, rfl, pre, ho, Hp, hf⟩ := hrel
    have hbw : base ≤ wr.heap.size := Nat.le_trans hb hf.1.size
    clear hown
    rcases Nat.eq_zero_or_pos j with h0 | h0
    · subst h0
      have Hr : Own 5 wr base u0 (l ++ be n (wid k)) := by have := Hp.out; simp only [be, List.append_nil] at this; rw [← this]; exact ho
      go_wp2
      go_ret
      exact ⟨_, rfl, Hr, hf⟩
    · obtain ⟨m, rfl⟩ : ∃ m, j = m + 1 := ⟨j - 1, by omega⟩
      have hm : m ≤ 7 := by omega
      have em : ((m + 1 : Nat) : Int) - 1 = (m : Int) := by omega
      rw [em]
      have hpl : pre.length ≤ 8 := by have := congrArg List.length Hp.out; rw [List.length_append, be_len, be_len] at this; omega
      clear em h0
      have hm0 : (0 : Int) ≤ (m : Int) := by omega
      have hm1 : (m : Int) ≤ 7 := by omega
      have hlen : (l ++ pre).length + 1 ≤ 140737488355328 := by have := Hl.out; rw [List.length_append]; omega
      have Hlen : Hid ((l ++ pre).length + 1 ≤ 140737488355328) := hlen
      clear hlen
      go_wp2_with (at_builtin; refine wpList_append_bytes _ rfl (.tmp 15) (.tmp 21) 39 39 rfl base 5 i0 Tryz.underlying39 hi hz0 hz1 hz2 u0 _ rfl (ho.alloc _) _ [UInt8.ofNat (n / 2 ^ (8 * m))] rfl (src_one wr 39 5 Tryz.underlying39 _ _ (be_val n m)) Hlen.out (by simp; omega) ?_; intro v' w1 ho' hg' hv')
      go_roundw
      case rel =>
        refine ⟨m, by omega, rfl, pre ++ [UInt8.ofNat (n / 2 ^ (8 * m))], by simpa using ho', ?_, ?_⟩
        · have := Hp.out
          simp only [be] at this
          show _ = _
          rw [← this]
          simp
        · exact (hf.alloc _).step hg' (by simpa using hv')
      case measure => simp [intOf]

end Go.Proofs.YtgfijbbibafdfaaGreat
