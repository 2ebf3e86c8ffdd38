/- Contracts, over the turned program: undo.Cut, the document's Cut and Join, and sameTexts. Conditions: those that each theorem states. -/
import Derived.Test.YtgfijbbibafdfaaGreatULives
namespace Go.Proofs.YtgfijbbibafdfaaGreat
open Go.RowKit
set_option linter.unusedVariables false

/-- A page's sectors. -/
def cutAt (s : ByteArray) (j : Nat) : ByteArray := s.extract (j * 64) ((j + 1) * 64)
def cuts (s : ByteArray) (n : Nat) : List ByteArray := (List.range n).map (cutAt s)
theorem cuts_len (s : ByteArray) (n : Nat) : (cuts s n).length = n := by simp [cuts]
theorem cuts_succ (s : ByteArray) (n : Nat) : cuts s (n + 1) = cuts s n ++ [cutAt s n] := by simp [cuts, List.range_succ]
def cutE (s : ByteArray) : Int := if s.size = 256 then 0 else 1
def cutL (s : ByteArray) : List ByteArray := if s.size = 256 then cuts s 4 else []
theorem infoStr : (Tryz.prog.info? 9).map (fun i => (i.zero, i.size, i.bytes)) = some (some (.string ByteArray.empty), 1, 16) := by kernel_rfl
/-- make([]string, n). -/
theorem make_strs (w : World) (n : Nat) (hn : n ≤ 1000000) : ∃ wa, (Instr.makeSlice 68 (.int .i64 n) (.int .i64 n)).run Tryz.prog w = .ok (.slice (some ⟨w.heap.size, 0, none⟩) n n) wa ∧ Ow Value.string 9 wa w.heap.size (.slice (some ⟨w.heap.size, 0, none⟩) n n) (List.replicate n ByteArray.empty) ∧ Kp none' w wa := by
  obtain ⟨i0, hi, hz0, hz1, hz2⟩ := info_parts infoStr
  obtain ⟨wa, hmk, hOa, hga⟩ := run_make_full (P := Tryz.prog) w w.heap.size 68 9 i0 _ 1 Tryz.underlying68 hi hz0 hz1 .i64 .i64 n (by rw [hz2]; omega) (by unfold maxLen; omega) (Nat.le_refl _)
  refine ⟨wa, hmk, ?_, Kp.ofN hga _⟩
  have e : (madeCells (Value.string ByteArray.empty).cells (n * 1)).toList = (List.replicate n ByteArray.empty).map Value.string := by
    show (madeCells #[Value.string ByteArray.empty] (n * 1)).toList = _
    rw [toList_madeCells_one]
    simp
  unfold Ow
  rw [List.length_replicate, ← e]
  exact hOa
theorem set_nextS (pre : List ByteArray) (m : Nat) (x : ByteArray) : (pre ++ List.replicate (m + 1) ByteArray.empty).set pre.length x = (pre ++ [x]) ++ List.replicate m ByteArray.empty := by
  rw [List.set_append_right _ _ (Nat.le_refl _), Nat.sub_self, List.replicate_succ, List.set_cons_zero, List.append_assoc]
  rfl

set_option maxRecDepth 100000 in
set_option maxHeartbeats 800000 in
theorem cut_any (s : ByteArray) (w : World) (hs : s.size ≤ maxLen) :
    Calls Tryz.prog 66 #[.string s] w fun e w' => ∃ v, e = .returned (.tuple #[v, .int .i64 (cutE s)]) ∧ Ow Value.string 9 w' w.heap.size v (cutL s) ∧ Kp none' w w' := by
  unfold maxLen at hs
  by_cases h : s.size = 256
  · have hE : cutE s = 0 := by simp [cutE, h]
    have hL : cutL s = cuts s 4 := by simp [cutL, h]
    rw [hE, hL]
    clear hE hL
    have hne : ((s.size : Int) != 256) = false := by simp [h]
    obtain ⟨wa, hmk, hO, hka⟩ := make_strs w 4 (by omega)
    rw [show ((4 : Nat) : Int) = 4 from rfl] at hmk
    obtain ⟨g, HG⟩ : ∃ g, Hid (w.heap.size = g) := ⟨_, rfl⟩
    rw [HG.out] at hmk hO
    go_enter Tryz.func66, Tryz.ntmps66
    go_upto_region 4 with (refine wpList_make_at rfl (.const (.int .i64 4)) (.const (.int .i64 4)) 68 rfl _ _ rfl rfl hmk ?_)
    clear hmk
    go_wp2
    go_loopw [12] (fun t wr => ∃ k : Nat, k ≤ 4 ∧ t = .int .i64 k ∧ Ow Value.string 9 wr g (.slice (some ⟨g, 0, none⟩) 4 4) (cuts s k ++ List.replicate (4 - k) ByteArray.empty) ∧ Kp none' w wr) (fun t _ => 4 - (intOf t).toNat)
    case atStart => exact ⟨0, Nat.zero_le _, rfl, hO, hka⟩
    case round =>
      obtain ⟨k, hk, rfl, hO, hK⟩ := hrel
      by_cases hlt : k < 4
      · have hki : (k : Int) < 4 := by omega
        obtain ⟨m, hm⟩ : ∃ m, 4 - k = m + 1 := ⟨4 - k - 1, by omega⟩
        have Hm : Hid (4 - (k + 1) = m) := by show _ = _; omega
        rw [hm] at hO
        have hcl := hO.cellAt k (by rw [List.length_append, cuts_len, List.length_replicate]; omega)
        have hc1 := hcl.1
        have hc2 := hcl.2
        have hst := hO.stored k (cutAt s k)
        have e1 := set_nextS (cuts s k) m (cutAt s k)
        rw [cuts_len] at e1
        rw [e1, ← cuts_succ] at hst
        have HST := hide hst
        have hsz : (s.size : Int) = 256 := by omega
        clear hcl e1 hst hO hm
        go_wp2
        go_roundw
        case rel => exact ⟨k + 1, by omega, by go_num, by rw [Hm.out]; exact HST.out.1, hK.trans (Kp.ofGrown HST.out.2 (S := only g) (fun k he _ => by cases he; rfl)) (fun _ _ h => h) (fun k hk he => absurd hk (by have := HG.out; unfold only at he; omega))⟩
        case measure => simp [intOf]; omega
      · obtain rfl : k = 4 := by omega
        go_wp2
        go_ret2
        refine ⟨_, rfl, ?_, hK⟩
        have : cuts s 4 ++ List.replicate (4 - 4) ByteArray.empty = cuts s 4 := by simp
        rw [this] at hO
        exact hO.mono (by have := HG.out; omega)
  · have hE : cutE s = 1 := by simp [cutE, h]
    have hL : cutL s = [] := by simp [cutL, h]
    rw [hE, hL]
    have hne : ((s.size : Int) != 256) = true := by simp; omega
    clear hE hL h
    go_enter Tryz.func66, Tryz.ntmps66
    go_wp2
    go_ret2
    exact ⟨_, rfl, Ow.nil _ _ _ _, Kp.refl _ _⟩

end Go.Proofs.YtgfijbbibafdfaaGreat
