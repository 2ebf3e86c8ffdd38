/- Contract, over the turned program: what the laws of layer 3 ask first holds, and turns nothing that was there. No conditions. -/
import Derived.Test.YtiledkdoabdnnabRMath
namespace Go.Proofs.Ytiledkdoabdnnab
open Go.RowKit
set_option linter.unusedVariables false

theorem load_sb {w : World} {g : Nat} {kv : Value} {u x : Int} (h : Sb w g kv u x) (a : Option Addr) (n c : Nat) (hk : kv = .slice a n c) : (loadVar 24 ⟨g, 0, none⟩).run Try.prog w = .ok (sval kv u x) w := by
  subst hk
  have c0 := h.c0
  have c1 := h.c1
  have c2 := h.c2
  go_simp
  rfl
theorem results_sb1 {fn : Func} {p : Tmp} (h : fn.results = #[.cell p 24]) (tmps : Array Value) (g : Nat) (W : World) (kv : Value) (u x : Int) (hp : tmps.getD p undef = .pointer (some ⟨g, 0, none⟩)) (hV : Sb W g kv u x) (a : Option Addr) (n c : Nat) (hk : kv = .slice a n c) :
    (results fn tmps).run Try.prog W = .ok (sval kv u x) W := by
  have e : (results fn tmps).run Try.prog W = ((asAddr (tmps.getD p undef)).run Try.prog W).andThen fun a w1 => (loadVar 24 a).run Try.prog w1 := by
    simp only [results, h]
    simp [Sem.run_bind, Result.andThen]
  rw [e, hp]
  simp [asAddr, Result.andThen, load_sb hV a n c hk]

set_option maxRecDepth 100000 in
set_option maxHeartbeats 400000 in
theorem schema_any (w : World) :
    Calls Try.prog 11 #[] w fun e w' => ∃ kv, e = .returned (sval kv 0 0) ∧ Kd w' kv [1, 2] ∧ w.grownBy w' none := by
  have hga := World.grownBy_alloc w (.cells #[.slice (some ⟨w.heap.size + 1, 0, none⟩) 2 2, .int .i64 0, .int .i64 0] 24) none
  have hgb := World.grownBy_alloc (w.alloc (.cells #[.slice (some ⟨w.heap.size + 1, 0, none⟩) 2 2, .int .i64 0, .int .i64 0] 24)) (.cells #[.int .i64 1, .int .i64 2] 36) none
  have hS := (Sb.new w (.slice (some ⟨w.heap.size + 1, 0, none⟩) 2 2) 0 0).keptN hgb
  have hK : Kd ((w.alloc (.cells #[.slice (some ⟨w.heap.size + 1, 0, none⟩) 2 2, .int .i64 0, .int .i64 0] 24)).alloc (.cells #[.int .i64 1, .int .i64 2] 36)) (.slice (some ⟨w.heap.size + 1, 0, none⟩) 2 2) [1, 2] := by
    refine ⟨some ⟨w.heap.size + 1, 0, none⟩, 2, rfl, Nat.le_refl _, by decide, fun i hi => ⟨w.heap.size + 1, 0, rfl, by simp, ?_⟩⟩
    match i, hi with
    | 0, _ => simp
    | 1, _ => simp
    | (i + 2), hi => exact absurd hi (by simp)
  go_enter Try.func11, Try.ntmps11
  go_wp2_with fail
  refine bodyPost_ret (results_sb1 rfl _ w.heap.size _ _ 0 0 rfl hS _ _ _ rfl) rfl ?_
  exact ⟨_, rfl, hK, grown_up hga hgb⟩

def row2 : List V := [⟨1, 7, ⟨#[]⟩⟩, ⟨2, 0, ⟨#[97]⟩⟩]
theorem row2_wf : ∀ x ∈ row2, x.wf := by
  intro x hx
  simp [row2] at hx
  rcases hx with rfl | rfl
  · exact ⟨by decide, by decide, by decide⟩
  · exact ⟨by decide, by decide, by decide⟩
theorem row2_E : fitE [1, 2] 0 0 row2 = 0 := by decide +kernel
theorem row2_K : rowK [1, 2] 0 0 row2 = [1, 128, 0, 0, 0, 0, 0, 0, 7] := by decide +kernel
theorem row2_R : rowR [1, 2] 0 0 row2 = [1, 97] := by decide +kernel
theorem row2_rd : rdRow [1, 2] 0 0 (⟨#[1, 128, 0, 0, 0, 0, 0, 0, 7]⟩ : ByteArray).data.toList ⟨#[1, 97]⟩ = .ok row2 := by
  have h := rdRow_back [1, 2] 0 0 row2 row2_wf row2_E
  rw [row2_K, row2_R] at h
  exact h
theorem row2_S : rightS [1, 2] 0 0 = true := by decide +kernel

theorem rwr2_any (kv v : Value) (w : World) (hK : Kd w kv [1, 2]) (hT : Tup w v row2) :
    Calls Try.prog 10 #[sval kv 0 0, v] w fun e w' => e = .returned (.tuple #[.string ⟨#[1, 128, 0, 0, 0, 0, 0, 0, 7]⟩, .string ⟨#[1, 97]⟩, .int .i64 0]) ∧ w.grownBy w' none := by
  refine (rowsWrite_any kv [1, 2] 0 0 v row2 w hK hT row2_wf).mono ?_
  rintro e w' ⟨rfl, hg⟩
  rw [row2_K, row2_R, row2_E]
  exact ⟨rfl, hg⟩
theorem rrd2_any (kv : Value) (w : World) (hK : Kd w kv [1, 2]) :
    Calls Try.prog 12 #[sval kv 0 0, .string ⟨#[1, 128, 0, 0, 0, 0, 0, 0, 7]⟩, .string ⟨#[1, 97]⟩] w fun e w' => (∃ g c, e = .returned (.tuple #[.slice (some ⟨g, 0, none⟩) 2 c, .int .i64 0]) ∧ w'.cell? ⟨g, 5, none⟩ = some (.string ⟨#[97]⟩)) ∧ w.grownBy w' none := by
  refine (rowsRead_any kv [1, 2] 0 0 _ _ w hK (by decide) (by decide)).mono ?_
  rintro e w' ⟨v, er, rfl, hT, hg⟩
  rw [row2_rd] at hT
  obtain ⟨rfl, ho⟩ := hT
  refine ⟨?_, hg⟩
  rcases ho.2 with ⟨_, h0⟩ | ⟨g, cap, cur, rfl, _⟩
  · simp [row2] at h0
  · obtain ⟨a, c, h1, _, _, h2⟩ := ho.tup
    cases h1
    obtain ⟨b, off, h3, _, _, _, c2⟩ := h2 1 (by simp [row2])
    cases h3
    exact ⟨g, cap, rfl, c2⟩
theorem rrt2_any (kv : Value) (w : World) (hK : Kd w kv [1, 2]) :
    Calls Try.prog 13 #[sval kv 0 0] w fun e w' => e = .returned (.bool true) ∧ w.grownBy w' none := by
  have h := rightS_any kv [1, 2] 0 0 w hK
  rw [row2_S] at h
  exact h

set_option maxRecDepth 100000 in
set_option maxHeartbeats 800000 in
theorem rlives_any (w : World) :
    Calls Try.prog 4 #[] w fun e w' => e = .returned (.bool true) ∧ w.grownBy w' none := by
  go_enter Try.func4, Try.ntmps4
  go_wp2_with fail
  refine (schema_any _).mono ?_
  rintro e w1 ⟨kv, rfl, hK1, hg1⟩
  have hga := World.grownBy_alloc w1 (.cells #[.int .i64 1, .int .i64 7, .string ⟨#[]⟩, .int .i64 2, .int .i64 0, .string ⟨#[97]⟩] 38) none
  have hT : Tup (w1.alloc (.cells #[.int .i64 1, .int .i64 7, .string ⟨#[]⟩, .int .i64 2, .int .i64 0, .string ⟨#[97]⟩] 38)) (.slice (some ⟨w1.heap.size, 0, none⟩) 2 2) row2 := by
    refine ⟨some ⟨w1.heap.size, 0, none⟩, 2, rfl, Nat.le_refl _, by decide, fun i hi => ⟨w1.heap.size, 0, rfl, by simp, ?_⟩⟩
    match i, hi with
    | 0, _ => simp [row2]
    | 1, _ => simp [row2]
    | (i + 2), hi => exact absurd hi (by simp [row2])
  have hKa := hK1.keptN hga
  go_wp2_with fail
  refine (rwr2_any kv _ _ hKa hT).mono ?_
  rintro e w2 ⟨rfl, hg2⟩
  have HG2 : Hid (w.grownBy w2 none) := grown_up (grown_up hg1 hga) hg2
  clear hg1 hga hg2 hT hKa hK1
  go_wp2_with fail
  refine (schema_any _).mono ?_
  rintro e w3 ⟨kv3, rfl, hK3, hg3⟩
  go_wp2_with fail
  refine (rrd2_any kv3 _ hK3).mono ?_
  rintro e w4 ⟨⟨g, c, rfl, hc⟩, hg4⟩
  have HG4 : Hid (w.grownBy w4 none) := grown_up (grown_up HG2.out hg3) hg4
  clear HG2 hg3 hg4 hK3
  go_wp2_with fail
  refine (schema_any _).mono ?_
  rintro e w5 ⟨kv5, rfl, hK5, hg5⟩
  go_wp2_with (go_at_call 13; refine (rrt2_any kv5 _ hK5).mono ?_; rintro e w6 ⟨rfl, hg6⟩)
  go_ret
  exact ⟨rfl, grown_up (grown_up HG4.out hg5) hg6⟩

end Go.Proofs.Ytiledkdoabdnnab
