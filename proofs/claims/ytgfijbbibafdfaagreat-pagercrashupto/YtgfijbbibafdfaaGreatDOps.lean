/- Contracts, over the turned program: a device's Size, Calls, has, begin, Stop, and stays. Conditions: those that each theorem states. -/
import Derived.Test.YtgfijbbibafdfaaGreatDBase
import Derived.WalkLawsBesides
import Derived.BigQuiet
import Derived.Deep.QuietTactic
import Derived.Deep.CutRange
import Derived.Deep.RegionWith
import Derived.Deep.RegionHeldLaw
namespace Go.Proofs.YtgfijbbibafdfaaGreat
open Go.RowKit
set_option linter.unusedVariables false

/-- The device that isn't there. -/
def dnil : Value := .pointer none
/-- A device's pointer. -/
def dptr (p : Dp) : Value := .pointer (some ⟨p.d, 0, none⟩)

set_option maxHeartbeats 400000 in
theorem size_nil (w : World) : Calls Tryz.prog 23 #[.pointer none] w fun e w' => e = .returned (.int .i64 0) ∧ w' = w := by
  go_enter Tryz.func23, Tryz.ntmps23
  go_wp2
  go_ret
  exact ⟨rfl, rfl⟩
set_option maxHeartbeats 400000 in
theorem begin_nil (w : World) : Calls Tryz.prog 53 #[.pointer none] w fun e w' => e = .returned (.int .i64 1) ∧ w' = w := by
  go_enter Tryz.func53, Tryz.ntmps53
  go_wp2
  go_ret
  exact ⟨rfl, rfl⟩
set_option maxHeartbeats 400000 in
theorem stop_nil (n : Int) (w : World) : Calls Tryz.prog 14 #[.pointer none, .int .i64 n] w fun e w' => e = .returned (.tuple #[]) ∧ w' = w := by
  go_enter Tryz.func14, Tryz.ntmps14
  go_wp2
  first | go_end0 | ((try simp only [Exit.inBlock, Exit.then]); refine bodyPost_ret (results_none rfl _ _ _) rfl ?_)
  exact ⟨rfl, rfl⟩

set_option maxHeartbeats 400000 in
theorem size_any (p : Dp) (D : Dv) (w : World) (h : Dev w p D) : Calls Tryz.prog 23 #[.pointer (some ⟨p.d, 0, none⟩)] w fun e w' => e = .returned (.int .i64 D.n) ∧ w' = w := by
  have h0 := h.c0
  go_enter Tryz.func23, Tryz.ntmps23
  go_wp2
  go_ret
  exact ⟨rfl, rfl⟩
/-- Is there such a sector? -/
def hasB (n : Nat) (i : Int) : Bool := decide (0 ≤ i ∧ i < n)
set_option maxHeartbeats 400000 in
theorem has_nil (i : Int) (w : World) : Calls Tryz.prog 54 #[.pointer none, .int .i64 i] w fun e w' => e = .returned (.bool false) ∧ w' = w := by
  by_cases h0 : 0 ≤ i
  all_goals
    go_enter Tryz.func54, Tryz.ntmps54
    go_wp2_with (go_at_call 23; refine (size_nil _).mono ?_; rintro e w' ⟨rfl, rfl⟩)
    go_ret
    exact ⟨by simp <;> omega, rfl⟩
set_option maxHeartbeats 400000 in
theorem has_any (p : Dp) (D : Dv) (i : Int) (w : World) (h : Dev w p D) : Calls Tryz.prog 54 #[.pointer (some ⟨p.d, 0, none⟩), .int .i64 i] w fun e w' => e = .returned (.bool (hasB D.n i)) ∧ w' = w := by
  by_cases h0 : 0 ≤ i
  all_goals
    go_enter Tryz.func54, Tryz.ntmps54
    go_wp2_with (go_at_call 23; refine (size_any _ _ _ h).mono ?_; rintro e w' ⟨rfl, rfl⟩)
    go_ret
    exact ⟨by simp [hasB, h0] <;> omega, rfl⟩

/-- Does it stand still? -/
def stillB (D : Dv) : Bool := D.st && decide (D.f ≤ D.c)
/-- A call more. -/
def Dv.called (D : Dv) : Dv := { D with c := D.c + 1 }
theorem Dev.setC {w : World} {p : Dp} {D : Dv} (h : Dev w p D) (x : Int) : Dev (w.setCell ⟨p.d, 2, none⟩ (.int .i64 x)) p { D with c := x } := by
  have ne : ∀ j, j ≠ 2 → (⟨p.d, 2, none⟩ : Addr) ≠ ⟨p.d, j, none⟩ := fun j hj he => hj (congrArg Addr.off he).symm
  have hk : Kp (fun k => k = p.d) w (w.setCell ⟨p.d, 2, none⟩ (.int .i64 x)) := Kp.setCell w p.d 2 _ rfl
  obtain ⟨es, cl, h1, h2⟩ := h.mp
  exact ⟨by rw [World.cell?_setCell_other (h := ne 0 (by omega))]; exact h.c0, by rw [World.cell?_setCell_other (h := ne 1 (by omega))]; exact h.c1, World.cell?_setCell_same _ _ _ h.c2,
    by rw [World.cell?_setCell_other (h := ne 3 (by omega))]; exact h.c3, by rw [World.cell?_setCell_other (h := ne 4 (by omega))]; exact h.c4, fun j => by rw [World.frozen?_setCell]; exact h.fd j,
    fun i hi => hk.rangeAt (h.rs i hi) (fun e => h.ds e.symm), hk.there h.ts (fun e => h.ds e.symm), Nat.lt_of_lt_of_le h.ls hk.size, ⟨es, cl, by rw [hk.block _ h.lm (fun e => h.dm e.symm)]; exact h1, h2⟩, h.ds, h.dm, h.sm, h.n4, h.l1, h.l2⟩
theorem Dev.setS {w : World} {p : Dp} {D : Dv} (h : Dev w p D) (x : Bool) : Dev (w.setCell ⟨p.d, 3, none⟩ (.bool x)) p { D with st := x } := by
  have ne : ∀ j, j ≠ 3 → (⟨p.d, 3, none⟩ : Addr) ≠ ⟨p.d, j, none⟩ := fun j hj he => hj (congrArg Addr.off he).symm
  have hk : Kp (fun k => k = p.d) w (w.setCell ⟨p.d, 3, none⟩ (.bool x)) := Kp.setCell w p.d 3 _ rfl
  obtain ⟨es, cl, h1, h2⟩ := h.mp
  exact ⟨by rw [World.cell?_setCell_other (h := ne 0 (by omega))]; exact h.c0, by rw [World.cell?_setCell_other (h := ne 1 (by omega))]; exact h.c1, by rw [World.cell?_setCell_other (h := ne 2 (by omega))]; exact h.c2,
    World.cell?_setCell_same _ _ _ h.c3, by rw [World.cell?_setCell_other (h := ne 4 (by omega))]; exact h.c4, fun j => by rw [World.frozen?_setCell]; exact h.fd j,
    fun i hi => hk.rangeAt (h.rs i hi) (fun e => h.ds e.symm), hk.there h.ts (fun e => h.ds e.symm), Nat.lt_of_lt_of_le h.ls hk.size, ⟨es, cl, by rw [hk.block _ h.lm (fun e => h.dm e.symm)]; exact h1, h2⟩, h.ds, h.dm, h.sm, h.n4, h.l1, h.l2⟩
theorem Dev.setF {w : World} {p : Dp} {D : Dv} (h : Dev w p D) (x : Int) : Dev (w.setCell ⟨p.d, 4, none⟩ (.int .i64 x)) p { D with f := x } := by
  have ne : ∀ j, j ≠ 4 → (⟨p.d, 4, none⟩ : Addr) ≠ ⟨p.d, j, none⟩ := fun j hj he => hj (congrArg Addr.off he).symm
  have hk : Kp (fun k => k = p.d) w (w.setCell ⟨p.d, 4, none⟩ (.int .i64 x)) := Kp.setCell w p.d 4 _ rfl
  obtain ⟨es, cl, h1, h2⟩ := h.mp
  exact ⟨by rw [World.cell?_setCell_other (h := ne 0 (by omega))]; exact h.c0, by rw [World.cell?_setCell_other (h := ne 1 (by omega))]; exact h.c1, by rw [World.cell?_setCell_other (h := ne 2 (by omega))]; exact h.c2,
    by rw [World.cell?_setCell_other (h := ne 3 (by omega))]; exact h.c3, World.cell?_setCell_same _ _ _ h.c4, fun j => by rw [World.frozen?_setCell]; exact h.fd j,
    fun i hi => hk.rangeAt (h.rs i hi) (fun e => h.ds e.symm), hk.there h.ts (fun e => h.ds e.symm), Nat.lt_of_lt_of_le h.ls hk.size, ⟨es, cl, by rw [hk.block _ h.lm (fun e => h.dm e.symm)]; exact h1, h2⟩, h.ds, h.dm, h.sm, h.n4, h.l1, h.l2⟩
theorem Dev.drewN {w : World} {p : Dp} {D : Dv} (h : Dev w p D) (n : Nat) : Dev (w.drewN n) p D := h.kept (Kp.drewN none' w n) (fun _ _ h => h)
theorem Dev.drew {w : World} {p : Dp} {D : Dv} (h : Dev w p D) : Dev w.drew p D := h.kept (Kp.drew none' w) (fun _ _ h => h)

set_option maxRecDepth 100000 in
set_option maxHeartbeats 400000 in
theorem begin_any (p : Dp) (D : Dv) (w : World) (hD : Dev w p D) (hc0 : 0 ≤ D.c) (hc1 : D.c ≤ 1000000) :
    Calls Tryz.prog 53 #[.pointer (some ⟨p.d, 0, none⟩)] w fun e w' => e = .returned (.int .i64 (if stillB D then 9 else 0)) ∧ Dev w' p D.called ∧ Kp p.mem w w' := by
  have h2 := hD.c2
  have h3 := hD.c3
  have h4 := hD.c4
  have hz := hD.fd 2
  cases hst : D.st
  · have hb : stillB D = false := by simp [stillB, hst]
    rw [hst] at h3
    rw [hb]
    go_enter Tryz.func53, Tryz.ntmps53
    go_upto_region 3 with fail
    go_quiet (fail)
    go_wp2
    go_ret
    exact ⟨rfl, (hD.drewN _).setC _, (Kp.drewN p.mem w _).then (Kp.setCell _ _ _ _ (.inl rfl))⟩
  · rw [hst] at h3
    by_cases hf : D.f ≤ D.c
    · have hb : stillB D = true := by simp [stillB, hst, hf]
      rw [hb]
      have hd : decide (D.f ≤ D.c) = true := by simpa using hf
      go_enter Tryz.func53, Tryz.ntmps53
      go_upto_region 3 with fail
      go_quiet (fail)
      go_wp2
      go_ret
      exact ⟨rfl, (hD.drewN _).setC _, (Kp.drewN p.mem w _).then (Kp.setCell _ _ _ _ (.inl rfl))⟩
    · have hb : stillB D = false := by simp [stillB, hst, hf]
      rw [hb]
      have hd : decide (D.f ≤ D.c) = false := by simpa using hf
      go_enter Tryz.func53, Tryz.ntmps53
      go_upto_region 3 with fail
      go_quiet (fail)
      go_wp2
      go_ret
      exact ⟨rfl, (hD.drewN _).setC _, (Kp.drewN p.mem w _).then (Kp.setCell _ _ _ _ (.inl rfl))⟩

/-- Stop. -/
def Dv.stop (D : Dv) (n : Int) : Dv := if 0 ≤ n ∧ n ≤ 1099511627776 then { D with st := true, f := D.c + n } else { D with st := false, f := 0 }
set_option maxRecDepth 100000 in
set_option maxHeartbeats 400000 in
theorem stop_any (p : Dp) (D : Dv) (n : Int) (w : World) (h : Dev w p D) (hc0 : 0 ≤ D.c) (hc1 : D.c ≤ 1000000) :
    Calls Tryz.prog 14 #[.pointer (some ⟨p.d, 0, none⟩), .int .i64 n] w fun e w' => e = .returned (.tuple #[]) ∧ Dev w' p (D.stop n) ∧ Kp p.mem w w' := by
  have h2 := h.c2
  have h3 := h.c3
  have h4 := h.c4
  have hz3 := h.fd 3
  have hz4 := h.fd 4
  by_cases h0 : 0 ≤ n
  · by_cases h1 : n ≤ 1099511627776
    · go_enter Tryz.func14, Tryz.ntmps14
      go_wp2
      first | go_end0 | ((try simp only [Exit.inBlock, Exit.then]); refine bodyPost_ret (results_none rfl _ _ _) rfl ?_)
      refine ⟨rfl, ?_, ((Kp.setCell (S := p.mem) _ _ _ _ (.inl rfl)).then (Kp.setCell _ _ _ _ (.inl rfl))).then (Kp.setCell _ _ _ _ (.inl rfl))⟩
      unfold Dv.stop
      rw [if_pos ⟨h0, h1⟩]
      exact ((h.setS true).setF 0).setF _
    · go_enter Tryz.func14, Tryz.ntmps14
      go_wp2
      first | go_end0 | ((try simp only [Exit.inBlock, Exit.then]); refine bodyPost_ret (results_none rfl _ _ _) rfl ?_)
      refine ⟨rfl, ?_, (Kp.setCell (S := p.mem) _ _ _ _ (.inl rfl)).then (Kp.setCell _ _ _ _ (.inl rfl))⟩
      unfold Dv.stop
      rw [if_neg (by omega)]
      exact (h.setS false).setF _
  · go_enter Tryz.func14, Tryz.ntmps14
    go_wp2
    first | go_end0 | ((try simp only [Exit.inBlock, Exit.then]); refine bodyPost_ret (results_none rfl _ _ _) rfl ?_)
    refine ⟨rfl, ?_, (Kp.setCell (S := p.mem) _ _ _ _ (.inl rfl)).then (Kp.setCell _ _ _ _ (.inl rfl))⟩
    unfold Dv.stop
    rw [if_neg (by omega)]
    exact (h.setS false).setF _

end Go.Proofs.YtgfijbbibafdfaaGreat
