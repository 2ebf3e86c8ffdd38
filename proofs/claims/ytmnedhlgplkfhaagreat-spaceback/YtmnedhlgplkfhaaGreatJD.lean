/- What a device is in memory: its five cells, its row of sectors, its map of sectors that aren't sure; what stays of it while other blocks are written. Definitions and laws for every program. Contracts, over the turned program: a device's Size, Calls, has, begin, Stop, and stays. Conditions: those that each theorem states. Contracts, over the turned program: stays and settle of package device. Conditions: those that each theorem states. The map of sectors that aren't sure: a look, a store, clear, and the loop over it. Conditions: those that each theorem states. Contracts, over the turned program: a device's Write and Read. Conditions: those that each theorem states. Contracts, over the turned program: a device's Read. Conditions: those that each theorem states. Contracts, over the turned program: device.New. Conditions: those that each theorem states. The loop over a device's map: range, the step, the round's entry, clear. Conditions: those that each theorem states. Contracts, over the turned program: a device's Sync. Conditions: those that each theorem states. -/
import Derived.Test.YtmnedhlgplkfhaaGreatJB
import Derived.Deep.MidRow
import Derived.Maps.RangeRun
import Derived.WalkLawsBesides
import Derived.BigQuiet
import Derived.Deep.QuietTactic
import Derived.Deep.CutRange
import Derived.Deep.RegionWith
import Derived.Deep.RegionHeldLaw
import Derived.ChangeKeysEq
import Derived.Maps.RangeWalk
import Derived.Lib.BufferWrite
import Derived.Deep.WholeRow
import Derived.Maps.OwnOps
import Derived.Carry
import Derived.Laws.MakeOwn
namespace Go.Proofs.YtmnedhlgplkfhaaGreat
open Go Go.RowKit
open Go.ChangeMaps (setBlock)
set_option linter.unusedVariables false

/-- The entries of a map of sectors: just those of u, no key twice, each with a stamp of its own. -/
structure Mp (u : Nat → Option (List UInt8)) (es : List MapEntry) (cl : Nat) : Prop where
  e1 : ∀ e ∈ es, ∃ (i : Nat) (x : List UInt8), u i = some x ∧ e.key = .int .i64 (i : Int) ∧ e.val = secV x
  e2 : ∀ (i : Nat) (x : List UInt8), u i = some x → ∃ e ∈ es, e.key = .int .i64 (i : Int)
  e3 : es.Pairwise (fun a b => a.key ≠ b.key)
  e4 : ∀ e ∈ es, e.born < cl
  e5 : (es.map (·.born)).Nodup
theorem Mp.nil (cl : Nat) : Mp (fun _ => none) [] cl := ⟨by simp, by simp, List.Pairwise.nil, by simp, by simp⟩

/-- Where a device lies: its struct, its row of sectors, its map. -/
structure Dp where
  d : Nat
  s : Nat
  m : Nat
/-- What a device is: how many sectors, what is sure, what isn't, how many calls, whether it stands still, from which call on. -/
structure Dv where
  n : Nat
  s : Nat → List UInt8
  u : Nat → Option (List UInt8)
  c : Int
  st : Bool
  f : Int
/-- Its blocks. -/
def Dp.mem (p : Dp) (k : Nat) : Prop := k = p.d ∨ k = p.s ∨ k = p.m
structure Dev (w : World) (p : Dp) (D : Dv) : Prop where
  c0 : w.cell? ⟨p.d, 0, none⟩ = some (.slice (some ⟨p.s, 0, none⟩) D.n D.n)
  c1 : w.cell? ⟨p.d, 1, none⟩ = some (.map (some p.m))
  c2 : w.cell? ⟨p.d, 2, none⟩ = some (.int .i64 D.c)
  c3 : w.cell? ⟨p.d, 3, none⟩ = some (.bool D.st)
  c4 : w.cell? ⟨p.d, 4, none⟩ = some (.int .i64 D.f)
  fd : ∀ j, w.frozen? ⟨p.d, j, none⟩ = false
  rs : ∀ i, i < D.n → w.rangeAt p.s (i * 64) (bcs (D.s i))
  ts : w.there p.s 0 (D.n * 64)
  ls : p.s < w.heap.size
  mp : ∃ es cl, w.heap[p.m]? = some (.map es cl) ∧ Mp D.u es.toList cl
  ds : p.d ≠ p.s
  dm : p.d ≠ p.m
  sm : p.s ≠ p.m
  n4 : D.n ≤ 4096
  l1 : ∀ i, i < D.n → (D.s i).length = 64
  l2 : ∀ i x, D.u i = some x → i < D.n ∧ x.length = 64
theorem Dev.ld {w : World} {p : Dp} {D : Dv} (h : Dev w p D) : p.d < w.heap.size := lt_of_cell h.c0
theorem Dev.lm {w : World} {p : Dp} {D : Dv} (h : Dev w p D) : p.m < w.heap.size := by
  obtain ⟨es, cl, hm, _⟩ := h.mp
  exact (Array.getElem?_eq_some_iff.1 hm).1
theorem Dev.lt {w : World} {p : Dp} {D : Dv} (h : Dev w p D) : ∀ k, p.mem k → k < w.heap.size := by
  rintro k (rfl | rfl | rfl)
  · exact h.ld
  · exact h.ls
  · exact h.lm
/-- It stays while other blocks are written. -/
theorem Dev.kept {w w' : World} {p : Dp} {D : Dv} {S : Nat → Prop} (h : Dev w p D) (hk : Kp S w w') (hS : ∀ k, p.mem k → ¬ S k) : Dev w' p D := by
  have hd : ¬ S p.d := hS _ (.inl rfl)
  have hs : ¬ S p.s := hS _ (.inr (.inl rfl))
  have hm : ¬ S p.m := hS _ (.inr (.inr rfl))
  obtain ⟨es, cl, h1, h2⟩ := h.mp
  exact ⟨hk.cell h.c0 hd, hk.cell h.c1 hd, hk.cell h.c2 hd, hk.cell h.c3 hd, hk.cell h.c4 hd, fun j => by rw [hk.frozen h.ld hd]; exact h.fd j,
    fun i hi => hk.rangeAt (h.rs i hi) hs, hk.there h.ts hs, Nat.lt_of_lt_of_le h.ls hk.size, ⟨es, cl, by rw [hk.block _ h.lm hm]; exact h1, h2⟩, h.ds, h.dm, h.sm, h.n4, h.l1, h.l2⟩
theorem Dev.keptN {w w' : World} {p : Dp} {D : Dv} (h : Dev w p D) (hk : Kp none' w w') : Dev w' p D := h.kept hk (fun _ _ h => h)

end Go.Proofs.YtmnedhlgplkfhaaGreat

namespace Go.Proofs.YtmnedhlgplkfhaaGreat
open Go.RowKit
set_option linter.unusedVariables false

/-- The device that isn't there. -/
def dnil : Value := .pointer none
/-- A device's pointer. -/
def dptr (p : Dp) : Value := .pointer (some ⟨p.d, 0, none⟩)

set_option maxHeartbeats 400000 in
theorem size_nil (w : World) : Calls Tryz.prog 77 #[.pointer none] w fun e w' => e = .returned (.int .i64 0) ∧ w' = w := by
  go_enter Tryz.func77, Tryz.ntmps77
  go_wp2
  go_ret
  exact ⟨rfl, rfl⟩
set_option maxHeartbeats 400000 in
theorem begin_nil (w : World) : Calls Tryz.prog 119 #[.pointer none] w fun e w' => e = .returned (.int .i64 1) ∧ w' = w := by
  go_enter Tryz.func119, Tryz.ntmps119
  go_wp2
  go_ret
  exact ⟨rfl, rfl⟩
set_option maxHeartbeats 400000 in
theorem size_any (p : Dp) (D : Dv) (w : World) (h : Dev w p D) : Calls Tryz.prog 77 #[.pointer (some ⟨p.d, 0, none⟩)] w fun e w' => e = .returned (.int .i64 D.n) ∧ w' = w := by
  have h0 := h.c0
  go_enter Tryz.func77, Tryz.ntmps77
  go_wp2
  go_ret
  exact ⟨rfl, rfl⟩
/-- Is there such a sector? -/
def hasB (n : Nat) (i : Int) : Bool := decide (0 ≤ i ∧ i < n)
set_option maxHeartbeats 400000 in
theorem has_nil (i : Int) (w : World) : Calls Tryz.prog 107 #[.pointer none, .int .i64 i] w fun e w' => e = .returned (.bool false) ∧ w' = w := by
  by_cases h0 : 0 ≤ i
  all_goals
    go_enter Tryz.func107, Tryz.ntmps107
    go_wp2_with (go_at_call 77; refine (size_nil _).mono ?_; rintro e w' ⟨rfl, rfl⟩)
    go_ret
    exact ⟨by simp <;> omega, rfl⟩
set_option maxHeartbeats 400000 in
theorem has_any (p : Dp) (D : Dv) (i : Int) (w : World) (h : Dev w p D) : Calls Tryz.prog 107 #[.pointer (some ⟨p.d, 0, none⟩), .int .i64 i] w fun e w' => e = .returned (.bool (hasB D.n i)) ∧ w' = w := by
  by_cases h0 : 0 ≤ i
  all_goals
    go_enter Tryz.func107, Tryz.ntmps107
    go_wp2_with (go_at_call 77; refine (size_any _ _ _ h).mono ?_; rintro e w' ⟨rfl, rfl⟩)
    go_ret
    exact ⟨by simp [hasB, h0] <;> omega, rfl⟩

/-- Does it stand still? -/
def stillB (D : Dv) : Bool := D.st && decide (D.f ≤ D.c)
/-- A call more. -/
def Dv.called (D : Dv) : Dv := { D with c := D.c + 1 }
theorem Dev.setC {w : World} {p : Dp} {D : Dv} (h : Dev w p D) (x : Int) : Dev (w.setCell ⟨p.d, 2, none⟩ (.int .i64 x)) p { D with c := x } := by
  have ne : ∀ j, j ≠ 2 → (⟨p.d, 2, none⟩ : Addr) ≠ ⟨p.d, j, none⟩ := fun j hj he => hj (congrArg Addr.off he).symm
  have hk : Kp (fun k => k = p.d) w (w.setCell ⟨p.d, 2, none⟩ (.int .i64 x)) := Kp.setCell w p.d 2 _ rfl
  obtain ⟨es, cl, h1, h2⟩ := h.mp
  exact ⟨by rw [World.cell?_setCell_other (h := ne 0 (by omega))]; exact h.c0, by rw [World.cell?_setCell_other (h := ne 1 (by omega))]; exact h.c1, World.cell?_setCell_same _ _ _ h.c2,
    by rw [World.cell?_setCell_other (h := ne 3 (by omega))]; exact h.c3, by rw [World.cell?_setCell_other (h := ne 4 (by omega))]; exact h.c4, fun j => by rw [World.frozen?_setCell]; exact h.fd j,
    fun i hi => hk.rangeAt (h.rs i hi) (fun e => h.ds e.symm), hk.there h.ts (fun e => h.ds e.symm), Nat.lt_of_lt_of_le h.ls hk.size, ⟨es, cl, by rw [hk.block _ h.lm (fun e => h.dm e.symm)]; exact h1, h2⟩, h.ds, h.dm, h.sm, h.n4, h.l1, h.l2⟩
theorem Dev.setS {w : World} {p : Dp} {D : Dv} (h : Dev w p D) (x : Bool) : Dev (w.setCell ⟨p.d, 3, none⟩ (.bool x)) p { D with st := x } := by
  have ne : ∀ j, j ≠ 3 → (⟨p.d, 3, none⟩ : Addr) ≠ ⟨p.d, j, none⟩ := fun j hj he => hj (congrArg Addr.off he).symm
  have hk : Kp (fun k => k = p.d) w (w.setCell ⟨p.d, 3, none⟩ (.bool x)) := Kp.setCell w p.d 3 _ rfl
  obtain ⟨es, cl, h1, h2⟩ := h.mp
  exact ⟨by rw [World.cell?_setCell_other (h := ne 0 (by omega))]; exact h.c0, by rw [World.cell?_setCell_other (h := ne 1 (by omega))]; exact h.c1, by rw [World.cell?_setCell_other (h := ne 2 (by omega))]; exact h.c2,
    World.cell?_setCell_same _ _ _ h.c3, by rw [World.cell?_setCell_other (h := ne 4 (by omega))]; exact h.c4, fun j => by rw [World.frozen?_setCell]; exact h.fd j,
    fun i hi => hk.rangeAt (h.rs i hi) (fun e => h.ds e.symm), hk.there h.ts (fun e => h.ds e.symm), Nat.lt_of_lt_of_le h.ls hk.size, ⟨es, cl, by rw [hk.block _ h.lm (fun e => h.dm e.symm)]; exact h1, h2⟩, h.ds, h.dm, h.sm, h.n4, h.l1, h.l2⟩
theorem Dev.setF {w : World} {p : Dp} {D : Dv} (h : Dev w p D) (x : Int) : Dev (w.setCell ⟨p.d, 4, none⟩ (.int .i64 x)) p { D with f := x } := by
  have ne : ∀ j, j ≠ 4 → (⟨p.d, 4, none⟩ : Addr) ≠ ⟨p.d, j, none⟩ := fun j hj he => hj (congrArg Addr.off he).symm
  have hk : Kp (fun k => k = p.d) w (w.setCell ⟨p.d, 4, none⟩ (.int .i64 x)) := Kp.setCell w p.d 4 _ rfl
  obtain ⟨es, cl, h1, h2⟩ := h.mp
  exact ⟨by rw [World.cell?_setCell_other (h := ne 0 (by omega))]; exact h.c0, by rw [World.cell?_setCell_other (h := ne 1 (by omega))]; exact h.c1, by rw [World.cell?_setCell_other (h := ne 2 (by omega))]; exact h.c2,
    by rw [World.cell?_setCell_other (h := ne 3 (by omega))]; exact h.c3, World.cell?_setCell_same _ _ _ h.c4, fun j => by rw [World.frozen?_setCell]; exact h.fd j,
    fun i hi => hk.rangeAt (h.rs i hi) (fun e => h.ds e.symm), hk.there h.ts (fun e => h.ds e.symm), Nat.lt_of_lt_of_le h.ls hk.size, ⟨es, cl, by rw [hk.block _ h.lm (fun e => h.dm e.symm)]; exact h1, h2⟩, h.ds, h.dm, h.sm, h.n4, h.l1, h.l2⟩
theorem Dev.drewN {w : World} {p : Dp} {D : Dv} (h : Dev w p D) (n : Nat) : Dev (w.drewN n) p D := h.kept (Kp.drewN none' w n) (fun _ _ h => h)
theorem Dev.drew {w : World} {p : Dp} {D : Dv} (h : Dev w p D) : Dev w.drew p D := h.kept (Kp.drew none' w) (fun _ _ h => h)

set_option maxRecDepth 100000 in
set_option maxHeartbeats 400000 in
theorem begin_any (p : Dp) (D : Dv) (w : World) (hD : Dev w p D) (hc0 : 0 ≤ D.c) (hc1 : D.c ≤ 1000000) :
    Calls Tryz.prog 119 #[.pointer (some ⟨p.d, 0, none⟩)] w fun e w' => e = .returned (.int .i64 (if stillB D then 9 else 0)) ∧ Dev w' p D.called ∧ Kp p.mem w w' := by
  have h2 := hD.c2
  have h3 := hD.c3
  have h4 := hD.c4
  have hz := hD.fd 2
  cases hst : D.st
  · have hb : stillB D = false := by simp [stillB, hst]
    rw [hst] at h3
    rw [hb]
    go_enter Tryz.func119, Tryz.ntmps119
    go_upto_region 3 with fail
    go_quiet (fail)
    go_wp2
    go_ret
    exact ⟨rfl, (hD.drewN _).setC _, (Kp.drewN p.mem w _).then (Kp.setCell _ _ _ _ (.inl rfl))⟩
  · rw [hst] at h3
    by_cases hf : D.f ≤ D.c
    · have hb : stillB D = true := by simp [stillB, hst, hf]
      rw [hb]
      have hd : decide (D.f ≤ D.c) = true := by simpa using hf
      go_enter Tryz.func119, Tryz.ntmps119
      go_upto_region 3 with fail
      go_quiet (fail)
      go_wp2
      go_ret
      exact ⟨rfl, (hD.drewN _).setC _, (Kp.drewN p.mem w _).then (Kp.setCell _ _ _ _ (.inl rfl))⟩
    · have hb : stillB D = false := by simp [stillB, hst, hf]
      rw [hb]
      have hd : decide (D.f ≤ D.c) = false := by simpa using hf
      go_enter Tryz.func119, Tryz.ntmps119
      go_upto_region 3 with fail
      go_quiet (fail)
      go_wp2
      go_ret
      exact ⟨rfl, (hD.drewN _).setC _, (Kp.drewN p.mem w _).then (Kp.setCell _ _ _ _ (.inl rfl))⟩

/-- Stop. -/
def Dv.stop (D : Dv) (n : Int) : Dv := if 0 ≤ n ∧ n ≤ 1099511627776 then { D with st := true, f := D.c + n } else { D with st := false, f := 0 }
end Go.Proofs.YtmnedhlgplkfhaaGreat

namespace Go.Proofs.YtmnedhlgplkfhaaGreat
open Go.RowKit
set_option linter.unusedVariables false

/-- How many of its first bytes the k-th unsure sector keeps. -/
def staysN (k : Nat) (l : List Bool) (torn cut : Int) : Nat := if (k : Int) = torn then (min (max cut 0) 64).toNat else if l.getD (k % l.length) false then 64 else 0
theorem staysN_le (k : Nat) (l : List Bool) (torn cut : Int) : staysN k l torn cut ≤ 64 := by 
  unfold staysN
  split
  · omega
  · split <;> omega

theorem infoSec : (Tryz.prog.info? 135).map (·.size) = some 64 := by kernel_rfl
theorem cellsU8 : Tryz.prog.cellsOf 5 = 1 := by kernel_rfl
theorem run_part_u8 (l : List UInt8) (j : Nat) (h : j < l.length) (w : World) : (part 5 (bcs l).toArray j).run Tryz.prog w = .ok (.int .u8 (l[j].toNat : Int)) w := by
  have hagg : (isAgg 5).run Tryz.prog w = .ok false w := by
    unfold isAgg
    rw [Sem.run_bind, run_underlying Tryz.underlying5 w]
    rfl
  have hc : (bcs l).toArray[j]? = some (.int .u8 (l[j].toNat : Int)) := by simpa using bcs_at l j h
  unfold part
  rw [Sem.run_bind, hagg]
  simp only [Result.andThen_ok, Bool.false_eq_true, if_false, hc]
  rfl
theorem run_eq_u8 (d : Nat) (a b : UInt8) (w : World) : (Op.equalIn (d + 1) 5 (.int .u8 (a.toNat : Int)) (.int .u8 (b.toNat : Int))).run Tryz.prog w = .ok (decide (a = b)) w := by
  have e : ((a.toNat : Int) == (b.toNat : Int)) = decide (a = b) := by
    rw [Bool.eq_iff_iff]
    simp only [beq_iff_eq, decide_eq_true_eq, ← UInt8.toNat_inj]
    omega
  simp only [Op.equalIn, Sem.run_bind, run_underlying Tryz.underlying5 w, Result.andThen_ok, if_true, e]
  rfl
theorem run_items_sec (d : Nat) (x y : List UInt8) (w : World) (hl : x.length = y.length) : ∀ is : List Nat, (∀ j ∈ is, j < x.length) →
    (Op.eqItems (d + 1) 5 1 (bcs x).toArray (bcs y).toArray is).run Tryz.prog w = .ok (is.all fun j => decide (x[j]? = y[j]?)) w
  | [], _ => rfl
  | j :: is, h => by
    have hj := h j (by simp)
    have ih := run_items_sec d x y w hl is (fun k hk => h k (by simp [hk]))
    simp only [Op.eqItems, Sem.run_bind, Nat.mul_one, run_part_u8 x j hj w, run_part_u8 y j (by omega) w, run_eq_u8, Result.andThen_ok, List.all_cons]
    rw [List.getElem?_eq_getElem hj, List.getElem?_eq_getElem (by omega : j < y.length)]
    by_cases he : x[j] = y[j]
    · simp [he, ih]
    · simp [he]
theorem run_neq_sec (x y : List UInt8) (hx : x.length = 64) (hy : y.length = 64) (w : World) : (binOp .neq 135 (.agg (bcs x).toArray) (.agg (bcs y).toArray)).run Tryz.prog w = .ok (.bool (!decide (x = y))) w := by
  obtain ⟨i, hi⟩ : ∃ i, Tryz.prog.info? 5 = some i := by
    cases h : Tryz.prog.info? 5 with
    | none => have := infoU8; rw [h] at this; cases this
    | some i => exact ⟨i, rfl⟩
  have h1 := run_equalIn_array (P := Tryz.prog) w 9999 (bcs x).toArray (bcs y).toArray Tryz.underlying135 hi
  rw [cellsU8, run_items_sec 9998 x y w (by omega) _ (fun j hj => by rw [hx]; simpa using hj)] at h1
  have e : ((List.range 64).all fun j => decide (x[j]? = y[j]?)) = decide (x = y) := by
    rw [Bool.eq_iff_iff]
    simp only [List.all_eq_true, List.mem_range, decide_eq_true_eq]
    constructor
    · intro h
      apply List.ext_getElem?
      intro j
      by_cases hj : j < 64
      · exact h j hj
      · rw [List.getElem?_eq_none (by omega), List.getElem?_eq_none (by omega)]
    · rintro rfl j _
      rfl
  rw [e] at h1
  simp only [binOp, Op.equal, Op.maxDepth, Sem.run_bind, h1, Result.andThen_ok]
  rfl

/-- The sector i anew. -/
def upd (s : Nat → List UInt8) (i : Nat) (x : List UInt8) : Nat → List UInt8 := fun k => if k = i then x else s k
theorem Dev.row {w : World} {p : Dp} {D : Dv} (h : Dev w p D) {i : Nat} (hi : i < D.n) : (Instr.loadAt 135 (.pointer (some ⟨p.s, i * 64, none⟩))).run Tryz.prog w = .ok (.agg (bcs (D.s i)).toArray) w :=
  run_loadAt_mid w p.s (i * 64) 135 (bcs (D.s i)) _ (h.rs i hi) Tryz.underlying135 rfl (by rw [infoSec, bcs_len, h.l1 i hi])
theorem Dev.rowV {w : World} {p : Dp} {D : Dv} (h : Dev w p D) {i : Nat} (hi : i < D.n) : (loadVar 135 ⟨p.s, i * 64, none⟩).run Tryz.prog w = .ok (.agg (bcs (D.s i)).toArray) w :=
  run_loadVar_mid w p.s (i * 64) 135 (bcs (D.s i)) _ (h.rs i hi) Tryz.underlying135 rfl (by rw [infoSec, bcs_len, h.l1 i hi])
theorem sec_new (w : World) (x : List UInt8) : (w.alloc (.cells (bcs x).toArray 135)).rangeAt w.heap.size 0 (bcs x) := fun j v hv => by
  rw [cell_of_row _ _ _ _ _ (0, 0) (heap_alloc_new w _)]
  simpa using hv
theorem sec_load {w : World} {b : Nat} {x : List UInt8} (h : w.rangeAt b 0 (bcs x)) (hx : x.length = 64) : (Instr.loadAt 135 (.pointer (some ⟨b, 0, none⟩))).run Tryz.prog w = .ok (.agg (bcs x).toArray) w :=
  run_loadAt_mid w b 0 135 (bcs x) _ h Tryz.underlying135 rfl (by rw [infoSec, bcs_len, hx])
theorem sec_loadV {w : World} {b : Nat} {x : List UInt8} (h : w.rangeAt b 0 (bcs x)) (hx : x.length = 64) : (loadVar 135 ⟨b, 0, none⟩).run Tryz.prog w = .ok (.agg (bcs x).toArray) w :=
  run_loadVar_mid w b 0 135 (bcs x) _ h Tryz.underlying135 rfl (by rw [infoSec, bcs_len, hx])
theorem quiet_sec {C : World → Prop} {K : Act → Prop} {o : Oper} {a : Act} (x : Operand) (b off : Nat) (l : List UInt8) (ho : o.op = .load 135 x) (hx : a.eval x = .pointer (some ⟨b, off, none⟩))
    (hl : l.length = 64) (hc : ∀ w, C w → w.rangeAt b off (bcs l)) (hk : K (a.put o.dst (.agg (bcs l).toArray))) : o.quiet Tryz.prog a C K :=
  ⟨_, fun w hw => by
    unfold Oper.quietAt execOp
    simp only [ho, hx, Instr.loadAt, Instr.sureAddr, Sem.run_bind, Sem.run_pure, Result.andThen_ok, run_loadVar_mid w b off 135 (bcs l) _ (hc w hw) Tryz.underlying135 rfl (by rw [infoSec, bcs_len, hl])]
    exact ⟨rfl, rfl⟩, hk⟩
theorem wpQuiet_sec {ops : Array Oper} {rest : List Oper} {C : World → Prop} {Q : Act → Prop} {o : Oper} {a : Act} (hg : o.guard = none) (x : Operand) (b off : Nat) (l : List UInt8) (ho : o.op = .load 135 x) (hx : a.eval x = .pointer (some ⟨b, off, none⟩))
    (hl : l.length = 64) (hc : ∀ w, C w → w.rangeAt b off (bcs l)) (hk : wpQuiet Tryz.prog ops C Q rest (a.put o.dst (.agg (bcs l).toArray))) : wpQuiet Tryz.prog ops C Q (o :: rest) a :=
  BigFrame.wpQuiet_want (by simp [Region.wanted, hg]) (fun K hK => quiet_sec x b off l ho hx hl hc (hK _ hk))
theorem noGuard : Tryz.prog.eqGuardType Tryz.prog.depth 135 = false := by kernel_rfl
theorem wpQuiet_neq {ops : Array Oper} {rest : List Oper} {C : World → Prop} {Q : Act → Prop} {o : Oper} {a : Act} (hg : o.guard = none) (x y : Operand) (l k : List UInt8) (ho : o.op = .binOp .neq 135 x y 135) (hx : a.eval x = .agg (bcs l).toArray) (hy : a.eval y = .agg (bcs k).toArray)
    (hl : l.length = 64) (hk : k.length = 64) (r : Bool) (hr : (!decide (l = k)) = r) (h : wpQuiet Tryz.prog ops C Q rest (a.put o.dst (.bool r))) : wpQuiet Tryz.prog ops C Q (o :: rest) a :=
  BigFrame.wpQuiet_want (by simp [Region.wanted, hg]) (fun K hK => ⟨.bool r, fun w hw => by
    unfold Oper.quietAt execOp
    simp only [ho, hx, hy, Sem.run_bind, Sem.run_pure, Result.andThen_ok, run_eqGuard_agg w .neq 135 x y (bcs l).toArray (bcs k).toArray noGuard, run_neq_sec l k hl hk w, hr]
    exact ⟨rfl, rfl⟩, hK _ h⟩)
/-- A sector stored anew. -/
theorem Dev.stored {w : World} {p : Dp} {D : Dv} (h : Dev w p D) {i : Nat} (hi : i < D.n) {x : List UInt8} (hx : x.length = 64) : Dev (w.setCells p.s (i * 64) (bcs x)) p { D with s := upd D.s i x } := by
  have hk : Kp (only p.s) w (w.setCells p.s (i * 64) (bcs x)) := Kp.setCells (S := only p.s) p.s rfl _ _ _
  have hd : ¬ only p.s p.d := fun e => h.ds e
  have hm : ¬ only p.s p.m := fun e => h.sm e.symm
  have hth : w.there p.s (i * 64) 64 := fun j hj => by
    have := h.ts (i * 64 + j) (by omega)
    simpa using this
  obtain ⟨es, cl, h1, h2⟩ := h.mp
  refine ⟨hk.cell h.c0 hd, hk.cell h.c1 hd, hk.cell h.c2 hd, hk.cell h.c3 hd, hk.cell h.c4 hd, fun j => by rw [hk.frozen h.ld hd]; exact h.fd j, fun k hk' => ?_, World.there_setCells h.ts _ _ _, Nat.lt_of_lt_of_le h.ls hk.size,
    ⟨es, cl, by rw [hk.block _ h.lm hm]; exact h1, h2⟩, h.ds, h.dm, h.sm, h.n4, fun k hk' => ?_, h.l2⟩
  · by_cases e : k = i
    · subst e
      have e2 : upd D.s k x k = x := by simp [upd]
      rw [show ({ D with s := upd D.s k x } : Dv).s k = x from e2]
      exact World.rangeAt_setCells_same w p.s (k * 64) (bcs x) (by rw [bcs_len, hx]; exact hth)
    · have e2 : upd D.s i x k = D.s k := by simp [upd, e]
      rw [show ({ D with s := upd D.s i x } : Dv).s k = D.s k from e2]
      have hl := h.l1 k hk'
      refine World.rangeAt_setCells_apart (h.rs k hk') _ _ _ (.inr ?_)
      rw [bcs_len, bcs_len, hl, hx]
      omega
  · by_cases e : k = i
    · simp [upd, e, hx]
    · simp [upd, e]
      exact h.l1 k hk'
theorem Dev.same {w : World} {p : Dp} {D : Dv} (h : Dev w p D) {i : Nat} {x : List UInt8} (he : D.s i = x) : Dev w p { D with s := upd D.s i x } := by
  have e : upd D.s i x = D.s := by
    funext k
    unfold upd
    split
    · rename_i e; subst e; exact he.symm
    · rfl
  rw [e]
  exact h
set_option maxRecDepth 100000 in
set_option maxHeartbeats 400000 in
theorem settle_any (p : Dp) (D : Dv) (i : Nat) (x : List UInt8) (w : World) (hD : Dev w p D) (hi : i < D.n) (hx : x.length = 64) :
    Calls Tryz.prog 120 #[.pointer (some ⟨p.d, 0, none⟩), .int .i64 i, .agg (bcs x).toArray] w fun e w' => e = .returned (.tuple #[]) ∧ Dev w' p { D with s := upd D.s i x } ∧ Kp (only p.s) w w' := by
  have h4 := hD.n4
  have hs := hD.l1 i hi
  have hk := Kp.alloc none' w (.cells (bcs x).toArray 135)
  have hl := sec_new w x
  have HU : Hid (Tryz.prog.underlying 135 = _) := Tryz.underlying135
  have HI : Hid ((Tryz.prog.info? 135).map (·.size) = some (bcs x).length) := by show _ = _; rw [infoSec, bcs_len, hx]
  go_enter Tryz.func120, Tryz.ntmps120
  go_upto_region 1 with fail
  obtain ⟨w1, H1⟩ : ∃ w1, Hid (w1 = w.alloc (.cells (bcs x).toArray 135)) := ⟨_, rfl⟩
  rw [← H1.out] at hk hl ⊢
  have hD1 := hD.keptN hk
  have h0 := hD1.c0
  have hr := hD1.rs i hi
  have hgs : p.s ≠ w.heap.size := Nat.ne_of_lt hD.ls
  generalize w.heap.size = g at *
  by_cases he : D.s i = x
  · refine wp_region_quiet_lit (by kernel_rfl) (by kernel_rfl) ?_
    repeat (first
      | (refine wpQuiet_sec rfl _ p.s (i * 64) (D.s i) rfl rfl hs (by rintro _ ⟨n, rfl⟩; exact hr) ?_; go_frame)
      | (refine wpQuiet_sec rfl _ g 0 x rfl rfl hx (by rintro _ ⟨n, rfl⟩; exact hl) ?_; go_frame)
      | (refine wpQuiet_neq rfl _ _ (D.s i) x rfl rfl rfl hs hx false (by simp [he]) ?_; go_frame)
      | go_big_quiet_step (fail))
    refine wpQuiet_nil ?_
    rintro _ ⟨nq, rfl⟩
    go_wp2
    first | go_end0 | ((try simp only [Exit.inBlock, Exit.then]); refine bodyPost_ret (results_none rfl _ _ _) rfl ?_)
    exact ⟨rfl, (hD1.drewN _).same he, (hk.mono (fun _ _ h => h.elim)).then (Kp.drewN _ _ _)⟩
  · refine wp_region_quiet_lit (by kernel_rfl) (by kernel_rfl) ?_
    repeat (first
      | (refine wpQuiet_sec rfl _ p.s (i * 64) (D.s i) rfl rfl hs (by rintro _ ⟨n, rfl⟩; exact hr) ?_; go_frame)
      | (refine wpQuiet_sec rfl _ g 0 x rfl rfl hx (by rintro _ ⟨n, rfl⟩; exact hl) ?_; go_frame)
      | (refine wpQuiet_neq rfl _ _ (D.s i) x rfl rfl rfl hs hx true (by simp [he]) ?_; go_frame)
      | go_big_quiet_step (fail))
    refine wpQuiet_nil ?_
    rintro _ ⟨nq, rfl⟩
    go_upto_region 2 with fail
    have hD2 := (hD1.drewN nq).drew
    have hK2 : Kp (only p.s) w (w1.drewN nq).drew := ((hk.mono (fun _ _ h => h.elim)).then (Kp.drewN _ _ _)).then (Kp.drew _ _)
    have h02 := hD2.c0
    have hth : ((w1.drewN nq).drew).there p.s (i * 64) 64 := fun j hj => by
      have := hD2.ts (i * 64 + j) (by omega)
      simpa using this
    have hl2 : ((w1.drewN nq).drew).rangeAt g 0 (bcs x) := hl
    have k1 : ∀ W : World, (W.cell? ⟨p.d, 0, none⟩ = some (.slice (some ⟨p.s, 0, none⟩) D.n D.n) ∧ W.rangeAt g 0 (bcs x) ∧ W.there p.s (i * 64) 64) →
        ((W.setCells p.s (i * 64) (bcs x)).cell? ⟨p.d, 0, none⟩ = some (.slice (some ⟨p.s, 0, none⟩) D.n D.n) ∧ (W.setCells p.s (i * 64) (bcs x)).rangeAt g 0 (bcs x) ∧ (W.setCells p.s (i * 64) (bcs x)).there p.s (i * 64) 64) := fun W ⟨a, b, c⟩ =>
      ⟨(Kp.setCells (S := only p.s) p.s rfl _ _ _).cell a hD.ds, World.rangeAt_setCells_apart b _ _ _ (.inl (Ne.symm hgs)), World.there_setCells c _ _ _⟩
    have hu := HU.out
    have hI := HI.out
    have h1c := bcs_one x
    have hbl : (bcs x).length = 64 := by rw [bcs_len, hx]
    clear h0 hr hl hk hD1 hD
    go_region_held_law (fun w' => w'.cell? ⟨p.d, 0, none⟩ = some (.slice (some ⟨p.s, 0, none⟩) D.n D.n) ∧ w'.rangeAt g 0 (bcs x) ∧ w'.there p.s (i * 64) 64) (first | exact ⟨h02, hl2, hth⟩ | exact k1 _ (by assumption)) (fail)
    first | go_end0 | ((try simp only [Exit.inBlock, Exit.then]); refine bodyPost_ret (results_none rfl _ _ _) rfl ?_)
    exact ⟨rfl, hD2.stored hi hx, hK2.then (Kp.setCells (S := only p.s) p.s rfl _ _ _)⟩

end Go.Proofs.YtmnedhlgplkfhaaGreat

namespace Go.Proofs.YtmnedhlgplkfhaaGreat
open Go.RowKit
open Go.ChangeMaps (setBlock)
set_option linter.unusedVariables false

theorem zeroSec (w : World) : (zeroValue 135).run Tryz.prog w = .ok (.agg (bcs noughts).toArray) w := Tryz.zeroValue135 w

theorem Mp.keys {u : Nat → Option (List UInt8)} {es : List MapEntry} {cl : Nat} (h : Mp u es cl) : ∀ e ∈ es, ∃ z : Int, e.key = .int .i64 z := fun e he => by
  obtain ⟨i, x, _, hk, _⟩ := h.e1 e he
  exact ⟨_, hk⟩
theorem Mp.find {u : Nat → Option (List UInt8)} {es : List MapEntry} {cl : Nat} (h : Mp u es cl) (i : Nat) :
    (u i = none ∧ Instr.findNow (.int .i64) (.int .i64 (i : Int)) es 0 = some none ∧ ∀ e ∈ es, e.key ≠ .int .i64 (i : Int)) ∨
    ∃ j e x, u i = some x ∧ es[j]? = some e ∧ e.key = .int .i64 (i : Int) ∧ e.val = secV x ∧ Instr.findNow (.int .i64) (.int .i64 (i : Int)) es 0 = some (some (j, secV x)) := by
  rcases find_spec (i : Int) es 0 h.keys with ⟨h1, h2⟩ | ⟨j, e, h1, h2, h3⟩
  · refine .inl ⟨?_, h1, h2⟩
    cases hu : u i with
    | none => rfl
    | some x =>
      obtain ⟨e, he, hk⟩ := h.e2 i x hu
      exact absurd hk (h2 e he)
  · obtain ⟨i', x, hu, hk, hv⟩ := h.e1 e (List.mem_of_getElem? h1)
    have : i' = i := by
      rw [h2] at hk
      have := (Value.int.inj hk).2
      omega
    subst this
    exact .inr ⟨j, e, x, hu, h1, h2, hv, by rw [h3, hv]; simp⟩

/-- What a look finds. -/
def lookV (u : Nat → Option (List UInt8)) (i : Nat) : List UInt8 := (u i).getD noughts
theorem run_look {w : World} {m : Nat} {es : Array MapEntry} {cl : Nat} {u : Nat → Option (List UInt8)} (hm : w.heap[m]? = some (.map es cl)) (h : Mp u es.toList cl) (i : Nat) (ok : Bool) :
    (Instr.lookup 110 (.map (some m)) (.int .i64 (i : Int)) ok).run Tryz.prog w = .ok (if ok then .tuple #[.agg (bcs (lookV u i)).toArray, .bool (u i).isSome] else .agg (bcs (lookV u i)).toArray) w := by
  rcases h.find i with ⟨h1, h2, _⟩ | ⟨j, e, x, h1, _, _, _, h2⟩
  · simp only [Instr.lookup, Sem.run_bind, run_underlying Tryz.underlying110, Result.andThen_ok, MapKept.run_getObj_map hm, Sem.run_pure, run_check, Instr.findKey, run_underlying Tryz.underlying3, h2, zeroSec, lookV, h1, Option.getD_none, Option.isSome_none]
  · simp only [Instr.lookup, Sem.run_bind, run_underlying Tryz.underlying110, Result.andThen_ok, MapKept.run_getObj_map hm, Sem.run_pure, run_check, Instr.findKey, run_underlying Tryz.underlying3, h2, lookV, h1, Option.getD_some, Option.isSome_some, secV]

/-- A sector more that isn't sure. -/
def put (u : Nat → Option (List UInt8)) (i : Nat) (x : List UInt8) : Nat → Option (List UInt8) := fun k => if k = i then some x else u k
theorem run_putM {w : World} {m : Nat} {es : Array MapEntry} {cl : Nat} {u : Nat → Option (List UInt8)} (hm : w.heap[m]? = some (.map es cl)) (h : Mp u es.toList cl) (i : Nat) (x : List UInt8) :
    ∃ es' cl', (Instr.mapUpdate 110 (.map (some m)) (.int .i64 (i : Int)) (.agg (bcs x).toArray)).run Tryz.prog w = .ok () (setBlock w m (.map es' cl')) ∧ Mp (put u i x) es'.toList cl' := by
  rcases h.find i with ⟨h1, h2, h3⟩ | ⟨j, e, y, h1, h3, h4, h5, h2⟩
  · refine ⟨es.push { key := .int .i64 (i : Int), val := .agg (bcs x).toArray, born := cl }, cl + 1, ?_, ?_⟩
    · simp only [Instr.mapUpdate, Sem.run_bind, run_underlying Tryz.underlying110, Result.andThen_ok, MapKept.run_getObj_map hm, Sem.run_pure, run_check, Instr.findKey, run_underlying Tryz.underlying3, h2, MapKept.run_setObj_map _ hm]
      rfl
    · have ne : ∀ k y, u k = some y → k ≠ i := fun k y hk e => by subst e; rw [h1] at hk; cases hk
      rw [Array.toList_push]
      refine ⟨fun e he => ?_, fun k y hk => ?_, ?_, fun e he => ?_, ?_⟩
      · rcases List.mem_append.1 he with he | he
        · obtain ⟨k, y, a, b, c⟩ := h.e1 e he
          exact ⟨k, y, by simp [put, ne k y a, a], b, c⟩
        · have : e = { key := .int .i64 (i : Int), val := .agg (bcs x).toArray, born := cl } := by simpa using he
          subst this
          exact ⟨i, x, by simp [put], rfl, rfl⟩
      · by_cases e : k = i
        · subst e
          exact ⟨{ key := .int .i64 (k : Int), val := .agg (bcs x).toArray, born := cl }, List.mem_append.2 (.inr (by simp)), rfl⟩
        · simp only [put, e, if_false] at hk
          obtain ⟨e', he', hk'⟩ := h.e2 k y hk
          exact ⟨e', List.mem_append.2 (.inl he'), hk'⟩
      · rw [List.pairwise_append]
        refine ⟨h.e3, List.pairwise_singleton _ _, fun a ha b hb => ?_⟩
        have : b = { key := .int .i64 (i : Int), val := .agg (bcs x).toArray, born := cl } := by simpa using hb
        subst this
        exact h3 a ha
      · rcases List.mem_append.1 he with he | he
        · have := h.e4 e he
          omega
        · have : e = { key := .int .i64 (i : Int), val := .agg (bcs x).toArray, born := cl } := by simpa using he
          subst this
          exact Nat.lt_succ_self _
      · rw [List.map_append, List.nodup_append]
        refine ⟨h.e5, by simp, fun a ha b hb => ?_⟩
        obtain ⟨e, he, rfl⟩ := List.mem_map.1 ha
        have := h.e4 e he
        have : b = cl := by simpa using hb
        omega
  · have hj : j < es.size := by have := (List.getElem?_eq_some_iff.1 h3).1; simpa using this
    have hej : es[j]? = some e := by rw [← Array.getElem?_toList]; exact h3
    refine ⟨es.modify j fun e => { e with key := .int .i64 (i : Int), val := .agg (bcs x).toArray }, cl, ?_, ?_⟩
    · have hs : (Instr.keyThatStays (.int .i64 (i : Int)) (.int .i64 (i : Int))).run Tryz.prog w = .ok (.int .i64 (i : Int)) w := by
        unfold Instr.keyThatStays
        rw [if_pos (by simp [Instr.sameBits])]
        rfl
      simp only [Instr.mapUpdate, Sem.run_bind, run_underlying Tryz.underlying110, Result.andThen_ok, MapKept.run_getObj_map hm, Sem.run_pure, run_check, Instr.findKey, run_underlying Tryz.underlying3, h2, hej, Option.map_some, Option.getD_some, h4, hs, MapKept.run_setObj_map _ hm]
      rfl
    · have hl : (es.modify j fun e => { e with key := .int .i64 (i : Int), val := .agg (bcs x).toArray }).toList = es.toList.modify j fun e => { e with key := .int .i64 (i : Int), val := .agg (bcs x).toArray } := by simp
      rw [hl]
      have hget : ∀ (k : Nat) (e' : MapEntry), (es.toList.modify j fun e => { e with key := .int .i64 (i : Int), val := .agg (bcs x).toArray })[k]? = some e' →
          (k = j ∧ e' = { e with key := .int .i64 (i : Int), val := .agg (bcs x).toArray }) ∨ (k ≠ j ∧ es.toList[k]? = some e') := by
        intro k e' hk
        rw [List.getElem?_modify] at hk
        by_cases ek : j = k
        · subst ek
          rw [h3] at hk
          simp at hk
          exact .inl ⟨rfl, hk.symm⟩
        · simp only [ek, if_false] at hk
          exact .inr ⟨fun e => ek e.symm, by simpa using hk⟩
      have hkeys : (es.toList.modify j fun e => { e with key := .int .i64 (i : Int), val := .agg (bcs x).toArray }).map (·.key) = es.toList.map (·.key) := by
        apply List.ext_getElem?
        intro k
        rw [List.getElem?_map, List.getElem?_map, List.getElem?_modify]
        by_cases ek : j = k
        · subst ek
          rw [h3]
          simp [h4]
        · simp [ek]
      have hborn : (es.toList.modify j fun e => { e with key := .int .i64 (i : Int), val := .agg (bcs x).toArray }).map (·.born) = es.toList.map (·.born) := by
        apply List.ext_getElem?
        intro k
        rw [List.getElem?_map, List.getElem?_map, List.getElem?_modify]
        by_cases ek : j = k
        · subst ek
          rw [h3]
          simp
        · simp [ek]
      have huniq : ∀ k e', es.toList[k]? = some e' → e'.key = .int .i64 (i : Int) → k = j := fun k e' hk hkey => by
        have hp := List.pairwise_iff_getElem.1 h.e3
        have hk' := (List.getElem?_eq_some_iff.1 hk)
        have hj' := (List.getElem?_eq_some_iff.1 h3)
        obtain ⟨lk, vk⟩ := hk'
        obtain ⟨lj, vj⟩ := hj'
        rcases Nat.lt_trichotomy k j with hlt | heq | hgt
        · exact absurd (by rw [vk, vj, hkey, h4]) (hp k j lk lj hlt)
        · exact heq
        · exact absurd (by rw [vk, vj, hkey, h4]) (hp j k lj lk hgt)
      refine ⟨fun e' he' => ?_, fun k y' hk => ?_, ?_, fun e' he' => ?_, by rw [hborn]; exact h.e5⟩
      · obtain ⟨k, hk⟩ := List.getElem?_of_mem he'
        rcases hget k e' hk with ⟨rfl, rfl⟩ | ⟨hne, hk'⟩
        · exact ⟨i, x, by simp [put], rfl, rfl⟩
        · obtain ⟨k', y', a, b, c⟩ := h.e1 e' (List.mem_of_getElem? hk')
          have : k' ≠ i := fun e0 => hne (huniq k e' hk' (by rw [b, e0]))
          exact ⟨k', y', by simp [put, this, a], b, c⟩
      · have : ∃ y0, u k = some y0 := by
          by_cases e0 : k = i
          · subst e0; exact ⟨y, h1⟩
          · simp only [put, e0, if_false] at hk; exact ⟨y', hk⟩
        obtain ⟨y0, hy0⟩ := this
        obtain ⟨e', he', hk'⟩ := h.e2 k y0 hy0
        have hmem : (Value.int .i64 (k : Int)) ∈ (es.toList.modify j fun e => { e with key := .int .i64 (i : Int), val := .agg (bcs x).toArray }).map (·.key) := by
          rw [hkeys, ← hk']
          exact List.mem_map_of_mem he'
        obtain ⟨e2, he2, hk2⟩ := List.mem_map.1 hmem
        exact ⟨e2, he2, hk2⟩
      · have := List.pairwise_map (f := fun e : MapEntry => e.key) (R := (· ≠ ·)) (l := es.toList.modify j fun e => { e with key := .int .i64 (i : Int), val := .agg (bcs x).toArray })
        rw [← this, hkeys, List.pairwise_map]
        exact h.e3
      · have hmem : e'.born ∈ (es.toList.modify j fun e => { e with key := .int .i64 (i : Int), val := .agg (bcs x).toArray }).map (·.born) := List.mem_map_of_mem he'
        rw [hborn] at hmem
        obtain ⟨e2, he2, hb2⟩ := List.mem_map.1 hmem
        rw [← hb2]
        exact h.e4 e2 he2

theorem run_clearM {w : World} {m : Nat} {es : Array MapEntry} {cl : Nat} (ty : TypeId) (hm : w.heap[m]? = some (.map es cl)) :
    (Builtin.clear_ #[110] ty #[.map (some m)]).run Tryz.prog w = .ok (.tuple #[]) (setBlock w m (.map #[] cl)) := by
  have h1 : (#[110] : Array TypeId)[0]? = some 110 := rfl
  have h2 : (#[Value.map (some m)] : Array Value)[0]? = some (.map (some m)) := rfl
  simp only [Builtin.clear_, h1, h2, Sem.run_bind, run_underlying Tryz.underlying110, Result.andThen_ok, MapKept.run_getObj_map hm, MapKept.run_setObj_map _ hm, Sem.run_pure]
  rfl

theorem Dev.setM {w : World} {p : Dp} {D : Dv} (h : Dev w p D) (es : Array MapEntry) (cl : Nat) (u : Nat → Option (List UInt8)) (hM : Mp u es.toList cl) (hu : ∀ i x, u i = some x → i < D.n ∧ x.length = 64) :
    Dev (setBlock w p.m (.map es cl)) p { D with u := u } := by
  have hk : Kp (only p.m) w (setBlock w p.m (.map es cl)) := Kp.setBlock w p.m _ rfl
  have hd : ¬ only p.m p.d := fun e => h.dm e
  have hs : ¬ only p.m p.s := fun e => h.sm e
  exact ⟨hk.cell h.c0 hd, hk.cell h.c1 hd, hk.cell h.c2 hd, hk.cell h.c3 hd, hk.cell h.c4 hd, fun j => by rw [hk.frozen h.ld hd]; exact h.fd j,
    fun i hi => hk.rangeAt (h.rs i hi) hs, hk.there h.ts hs, Nat.lt_of_lt_of_le h.ls hk.size, ⟨es, cl, by
      have := h.lm
      unfold ChangeMaps.setBlock
      simp [this], hM⟩, h.ds, h.dm, h.sm, h.n4, h.l1, hu⟩

end Go.Proofs.YtmnedhlgplkfhaaGreat

namespace Go.Proofs.YtmnedhlgplkfhaaGreat
open Go.RowKit
open Go.ChangeMaps (setBlock)
set_option linter.unusedVariables false

theorem wpList_clear_at {P : Program} (w : World) {ops : Array Oper} {rest : List Oper} {o : Oper} {a : Act} {Q : Exit → Act → World → Prop} (hgd : o.guard = none) (d : Operand) (t : TypeId)
    (ho : o.op = .call { callee := .builtin .clear, args := #[d], argTypes := #[t] }) (v : Value) (hd : a.eval d = v) {v' : Value} {w' : World}
    (hr : (Builtin.clear_ #[t] o.type #[v]).run P w = .ok v' w') (h : wpList P ops Q rest (a.put o.dst v') w') : wpList P ops Q (o :: rest) a w :=
  wpList_plain hgd fun _ hK => by
    unfold Oper.wp execOp
    simp only [ho, resolve, invoke, builtin, Sem.run_bind, Sem.run_pure, Result.andThen_ok, List.map_toArray, List.map_cons, List.map_nil, hd, hr]
    exact hK _ _ h

def wrE (D : Dv) (i : Int) (s : ByteArray) : Int := if stillB D then 9 else if hasB D.n i then (if s.size ≤ 64 then 0 else 3) else 7
def Dv.write (D : Dv) (i : Int) (s : ByteArray) : Dv := if wrE D i s = 0 then { D.called with u := put D.u i.toNat (whole s.data.toList) } else D.called

theorem wpList_alloc_sec {w : World} {ops : Array Oper} {rest : List Oper} {o : Oper} {a : Act} {Q : Exit → Act → World → Prop} (hgd : o.guard = none) (ho : o.op = .alloc 135)
    (h : wpList Tryz.prog ops Q rest (a.put o.dst (.pointer (some ⟨w.heap.size, 0, none⟩))) (w.alloc (.cells (bcs noughts).toArray 135))) : wpList Tryz.prog ops Q (o :: rest) a w :=
  wpList_plain hgd fun _ hK => by
    unfold Oper.wp execOp
    simp only [ho, Instr.alloc, newVar, newRow, Value.cells, Sem.run_bind, Sem.run_pure, Result.andThen_ok, zeroSec]
    exact hK _ _ h
theorem run_copy_sec (w : World) (s : ByteArray) (h : s.size ≤ 64) : (Builtin.copy_ #[98, 9] 3 #[.slice (some ⟨w.heap.size, 0, none⟩) 64 64, .string s]).run Tryz.prog (w.alloc (.cells (bcs noughts).toArray 135)) =
    .ok (goInt s.size) (w.alloc (.cells (bcs (whole s.data.toList)).toArray 135)) := by
  have hr := Lib.run_copy_row_string (P := Tryz.prog) (w.alloc (.cells (bcs noughts).toArray 135)) 98 9 3 5 w.heap.size 0 64 64 s (bcs noughts).toArray 135 Tryz.underlying98 (by kernel_rfl) (heap_alloc_last w _) h (by simp [bcs_len, noughts_len]; omega)
  rw [hr, take_bcs s h, World.setRow_alloc_new]

set_option maxRecDepth 100000 in
set_option maxHeartbeats 400000 in
theorem write_any (p : Dp) (D : Dv) (i : Int) (s : ByteArray) (w : World) (hD : Dev w p D) (hc0 : 0 ≤ D.c) (hc1 : D.c ≤ 1000000) (hs : s.size ≤ maxLen) :
    Calls Tryz.prog 99 #[.pointer (some ⟨p.d, 0, none⟩), .int .i64 i, .string s] w fun e w' => e = .returned (.int .i64 (wrE D i s)) ∧ Dev w' p (D.write i s) ∧ Kp p.mem w w' := by
  unfold maxLen at hs
  by_cases hst : stillB D = true
  · have hE : wrE D i s = 9 := by simp [wrE, hst]
    have hW : D.write i s = D.called := by simp [Dv.write, hE]
    rw [hE, hW]
    go_enter Tryz.func99, Tryz.ntmps99
    go_wp2_with (go_at_call 119; refine (begin_any _ _ _ hD hc0 hc1).mono ?_; rintro e w1 ⟨rfl, hD1, hk1⟩; rw [if_pos hst])
    go_ret
    exact ⟨rfl, hD1, hk1⟩
  · have hst' : stillB D = false := by simpa using hst
    by_cases hh : hasB D.n i = true
    · by_cases hsz : s.size ≤ 64
      · have hE : wrE D i s = 0 := by simp [wrE, hst', hh, hsz]
        have hW : D.write i s = { D.called with u := put D.u i.toNat (whole s.data.toList) } := by simp [Dv.write, hE]
        rw [hE, hW]
        obtain ⟨k, rfl⟩ : ∃ k : Nat, i = k := ⟨i.toNat, by simp [hasB] at hh; omega⟩
        have hk : k < D.n := by simp [hasB] at hh; omega
        have HC : Hid (∀ W : World, (Builtin.copy_ #[98, 9] 3 #[.slice (some ⟨W.heap.size, 0, none⟩) 64 64, .string s]).run Tryz.prog (W.alloc (.cells (bcs noughts).toArray 135)) =
          .ok (goInt s.size) (W.alloc (.cells (bcs (whole s.data.toList)).toArray 135))) := fun W => run_copy_sec W s hsz
        have hwl : (bcs (whole s.data.toList)).length = 64 := by rw [bcs_len, whole_len]
        obtain ⟨X, HX⟩ : ∃ X, Hid (whole s.data.toList = X) := ⟨_, rfl⟩
        rw [HX.out] at hwl HC
        clear hE hW
        go_enter Tryz.func99, Tryz.ntmps99
        go_upto_region 8 with (first
          | (go_at_call 119; refine (begin_any _ _ _ hD hc0 hc1).mono ?_; rintro e w1 ⟨rfl, hD1, hk1⟩; rw [if_neg hst])
          | (go_at_call 107; refine (has_any _ _ _ _ hD1).mono ?_; rintro e wb ⟨rfl, rfl⟩; rw [show hasB D.called.n k = true from hh]))
        refine wp_region_lit ?_
        refine wpList_alloc_sec rfl rfl ?_
        go_frame
        have hcp := HC.out wb
        have hl3 := sec_new wb X
        have hk3 := Kp.alloc none' wb (.cells (bcs X).toArray 135)
        obtain ⟨w2, H2⟩ : ∃ w2, Hid (wb.alloc (.cells (bcs noughts).toArray 135) = w2) := ⟨_, rfl⟩
        obtain ⟨w3, H3⟩ : ∃ w3, Hid (wb.alloc (.cells (bcs X).toArray 135) = w3) := ⟨_, rfl⟩
        rw [H3.out] at hcp hl3 hk3
        rw [H2.out] at hcp ⊢
        have hgm : p.m ≠ wb.heap.size := Nat.ne_of_lt hD1.lm
        generalize wb.heap.size = g at *
        go_upto_region 10 with (refine wpList_copy_at _ rfl (.tmp 21) (.tmp 22) 98 9 rfl _ _ rfl rfl hcp ?_)
        go_frame
        have hD3 := (hD1.keptN hk3).drew
        have hK3 : Kp p.mem w w3.drew := (hk1.thenN hk3).then (Kp.drew _ _)
        obtain ⟨es, cl, hm, hM⟩ := hD3.mp
        obtain ⟨es', cl', hr, hM'⟩ := run_putM hm hM k X
        have h1 := hD3.c1
        have hl4 : w3.drew.rangeAt g 0 (bcs X) := hl3
        have k1 : (setBlock w3.drew p.m (.map es' cl')).cell? ⟨p.d, 1, none⟩ = some (.map (some p.m)) ∧ (setBlock w3.drew p.m (.map es' cl')).rangeAt g 0 (bcs X) :=
          ⟨(Kp.setBlock (S := only p.m) w3.drew p.m _ rfl).cell h1 hD3.dm, (Kp.setBlock (S := only p.m) w3.drew p.m _ rfl).rangeAt hl4 (Ne.symm hgm)⟩
        have hu : Tryz.prog.underlying 135 = _ := Tryz.underlying135
        have hI : (Tryz.prog.info? 135).map (·.size) = some (bcs X).length := by rw [infoSec, hwl]
        have HF : Hid (Dev (setBlock w3.drew p.m (.map es' cl')) p { D.called with u := put D.u k X }) := by
          refine hD3.setM es' cl' _ hM' (fun j x hx => ?_)
          by_cases e : j = k
          · subst e
            simp [put] at hx
            subst hx
            exact ⟨hk, by rw [← bcs_len]; exact hwl⟩
          · simp only [put, e, if_false] at hx
            exact hD3.l2 j x hx
        clear hm hM hM' hl3 hcp HC hD hD1 hk1 hk3
        go_region_held_law (fun W => W.cell? ⟨p.d, 1, none⟩ = some (.map (some p.m)) ∧ W.rangeAt g 0 (bcs X)) (first | exact ⟨h1, hl4⟩ | exact k1) (fail)
        go_wp2
        go_ret
        rw [HX.out]
        exact ⟨rfl, HF.out, hK3.then (Kp.setBlock _ _ _ (.inr (.inr rfl)))⟩
      · have hE : wrE D i s = 3 := by simp [wrE, hst', hh, hsz]
        have hW : D.write i s = D.called := by simp [Dv.write, hE]
        rw [hE, hW]
        go_enter Tryz.func99, Tryz.ntmps99
        go_wp2_with (first
          | (go_at_call 119; refine (begin_any _ _ _ hD hc0 hc1).mono ?_; rintro e w1 ⟨rfl, hD1, hk1⟩; rw [if_neg hst])
          | (go_at_call 107; refine (has_any _ _ _ _ hD1).mono ?_; rintro e w' ⟨rfl, rfl⟩; rw [show hasB D.called.n i = true from hh]))
        go_ret
        exact ⟨rfl, hD1, hk1⟩
    · have hh' : hasB D.n i = false := by simpa using hh
      have hE : wrE D i s = 7 := by simp [wrE, hst', hh']
      have hW : D.write i s = D.called := by simp [Dv.write, hE]
      rw [hE, hW]
      go_enter Tryz.func99, Tryz.ntmps99
      go_wp2_with (first
        | (go_at_call 119; refine (begin_any _ _ _ hD hc0 hc1).mono ?_; rintro e w1 ⟨rfl, hD1, hk1⟩; rw [if_neg hst])
        | (go_at_call 107; refine (has_any _ _ _ _ hD1).mono ?_; rintro e w' ⟨rfl, rfl⟩; rw [show hasB D.called.n i = false from hh']))
      go_ret
      exact ⟨rfl, hD1, hk1⟩

end Go.Proofs.YtmnedhlgplkfhaaGreat

namespace Go.Proofs.YtmnedhlgplkfhaaGreat
open Go.RowKit
open Go.ChangeMaps (setBlock)
set_option linter.unusedVariables false

/-- What a sector reads. -/
def Dv.at (D : Dv) (k : Nat) : List UInt8 := (D.u k).getD (D.s k)
def rdL (D : Dv) (i : Int) : List UInt8 := if hasB D.n i then D.at i.toNat else []
/-- A block of its own that holds a sector. -/
theorem sec_there (w : World) (x : List UInt8) : (w.alloc (.cells (bcs x).toArray 135)).there w.heap.size 0 x.length := fun j hj => by
  rw [Nat.zero_add, cell_of_row _ _ _ _ _ (0, 0) (heap_alloc_new w _)]
  refine ⟨by simp [bcs, hj], ?_⟩
  unfold World.frozen?
  rw [show (w.alloc (.cells (bcs x).toArray 135)).heap[(⟨w.heap.size, j, none⟩ : Addr).block]? = _ from heap_alloc_new w _]
  simp
theorem run_conv_sec {w : World} {g : Nat} {x : List UInt8} (h : w.rangeAt g 0 (bcs x)) (hx : x.length = 64) : (convert 98 9 (.slice (some ⟨g, 0, none⟩) 64 64)).run Tryz.prog w = .ok (.string ⟨x.toArray⟩) w := by
  have := run_convert_bytes_back (P := Tryz.prog) w 98 9 5 ⟨g, 0, none⟩ 64 x Tryz.underlying98 Tryz.underlying5 Tryz.underlying9 (fun j hj => by
    have e : (⟨g, 0, none⟩ : Addr).add j = ⟨g, 0 + j, none⟩ := by unfold Addr.add; split <;> simp_all
    rw [e]
    exact h j _ (bcs_at x j hj))
  rw [hx] at this
  exact this

set_option maxRecDepth 100000 in
set_option maxHeartbeats 400000 in
theorem read_nil (i : Int) (w : World) : Calls Tryz.prog 82 #[.pointer none, .int .i64 i] w fun e w' => e = .returned (.string ⟨#[]⟩) ∧ w' = w := by
  go_enter Tryz.func82, Tryz.ntmps82
  go_wp2_with (go_at_call 107; refine (has_nil _ _).mono ?_; rintro e w' ⟨rfl, rfl⟩)
  go_ret
  exact ⟨rfl, rfl⟩

set_option maxRecDepth 100000 in
set_option maxHeartbeats 400000 in
theorem read_any (p : Dp) (D : Dv) (i : Int) (w : World) (hD : Dev w p D) :
    Calls Tryz.prog 82 #[.pointer (some ⟨p.d, 0, none⟩), .int .i64 i] w fun e w' => e = .returned (.string ⟨(rdL D i).toArray⟩) ∧ Kp none' w w' := by
  by_cases hh : hasB D.n i = true
  · obtain ⟨k, rfl⟩ : ∃ k : Nat, i = k := ⟨i.toNat, by simp [hasB] at hh; omega⟩
    have hk : k < D.n := by simp [hasB] at hh; omega
    have h4 := hD.n4
    have hE : rdL D k = D.at k := by simp [rdL, hh]
    rw [hE]
    obtain ⟨es, cl, hm, hM⟩ := hD.mp
    have hlk := run_look hm hM k true
    simp only [if_true] at hlk
    have h0 := hD.c0
    have h1 := hD.c1
    have hu : Tryz.prog.underlying 135 = _ := Tryz.underlying135
    cases hx : D.u k with
    | some x =>
      have hxl := (hD.l2 k x hx).2
      have hA : D.at k = x := by simp [Dv.at, hx]
      rw [hA]
      have e1 : lookV D.u k = x := by simp [lookV, hx]
      rw [e1, hx] at hlk
      simp only [Option.isSome_some] at hlk
      clear hm hM hE hA e1
      go_enter Tryz.func82, Tryz.ntmps82
      go_upto_region 3 with (go_at_call 107; refine (has_any _ _ _ _ hD).mono ?_; rintro e wb ⟨rfl, rfl⟩; rw [hh])
      have ht := sec_there wb noughts
      have hI : (Tryz.prog.info? 135).map (·.size) = some (bcs x).toArray.size := by rw [infoSec, List.size_toArray, bcs_len, hxl]
      have h1c : ((bcs x).toArray).all (·.oneCell') = true := all_oneCell_toArray (bcs_one x)
      rw [noughts_len, ← hxl, ← bcs_len x, ← List.size_toArray] at ht
      have hk2 := (Kp.alloc none' wb (.cells (bcs noughts).toArray 135))
      have hl2 : ((wb.alloc (.cells (bcs noughts).toArray 135)).setCells wb.heap.size 0 (bcs x)).rangeAt wb.heap.size 0 (bcs x) := World.rangeAt_setCells_same _ _ _ _ (by rw [← List.size_toArray]; exact ht)
      have hcv := run_conv_sec hl2 hxl
      have hk3 := hk2.trans (Kp.setCells (S := only wb.heap.size) wb.heap.size rfl (bcs x) 0 _) (S'' := none') (fun _ _ h => h) (fun k hk h => absurd hk (by unfold only at h; omega))
      obtain ⟨w2, H2⟩ : ∃ w2, Hid (wb.alloc (.cells (bcs noughts).toArray 135) = w2) := ⟨_, rfl⟩
      rw [H2.out] at ht hl2 hcv hk3
      go_upto_region 4 with (first
        | (refine wpList_alloc_sec rfl rfl ?_; rw [H2.out]; generalize wb.heap.size = g at *)
        | (refine wpList_store_mid rfl 135 (.tmp 5) (.tmp 18) rfl _ 0 (bcs x).toArray rfl rfl ht hI h1c ?_; rw [List.toList_toArray]))
      generalize w2.setCells g 0 (bcs x) = w3 at *
      clear hl2 ht hlk h0 h1
      go_wp2
      go_ret
      exact ⟨rfl, hk3⟩
    | none =>
      have hA : D.at k = D.s k := by simp [Dv.at, hx]
      rw [hA]
      have e1 : lookV D.u k = noughts := by simp [lookV, hx]
      rw [e1, hx] at hlk
      simp only [Option.isSome_none] at hlk
      have hxl := hD.l1 k hk
      have hrs := hD.rs k hk
      have hls := hD.ls
      have hld := hD.ld
      obtain ⟨x, Hx⟩ : ∃ x, Hid (D.s k = x) := ⟨_, rfl⟩
      rw [Hx.out] at hxl hrs ⊢
      clear hm hM hE hA e1
      go_enter Tryz.func82, Tryz.ntmps82
      go_upto_region 3 with (go_at_call 107; refine (has_any _ _ _ _ hD).mono ?_; rintro e wb ⟨rfl, rfl⟩; rw [hh])
      have ht := sec_there wb noughts
      have hI : (Tryz.prog.info? 135).map (·.size) = some (bcs noughts).toArray.size := by rw [infoSec, List.size_toArray, bcs_len, noughts_len]
      have h1c : ((bcs noughts).toArray).all (·.oneCell') = true := all_oneCell_toArray (bcs_one noughts)
      have hI2 : (Tryz.prog.info? 135).map (·.size) = some (bcs x).toArray.size := by rw [infoSec, List.size_toArray, bcs_len, hxl]
      have hI3 : (Tryz.prog.info? 135).map (·.size) = some (bcs x).length := by rw [infoSec, bcs_len, hxl]
      have h1c2 : ((bcs x).toArray).all (·.oneCell') = true := all_oneCell_toArray (bcs_one x)
      have hg1 : p.s ≠ wb.heap.size := Nat.ne_of_lt hls
      have hg2 : p.d ≠ wb.heap.size := Nat.ne_of_lt hld
      rw [← bcs_len noughts, ← List.size_toArray] at ht
      have hk2 := (Kp.alloc none' wb (.cells (bcs noughts).toArray 135))
      have hk3 := hk2.trans (Kp.setCells (S := only wb.heap.size) wb.heap.size rfl (bcs noughts) 0 _) (S'' := none') (fun _ _ h => h) (fun k hk h => absurd hk (by unfold only at h; omega))
      have ht3 := World.there_setCells ht wb.heap.size 0 (bcs noughts)
      have hrs3 := hk3.rangeAt hrs (fun h => h)
      have h03 := hk3.cell h0 (fun h => h)
      have eSz : (bcs noughts).toArray.size = (bcs x).toArray.size := by rw [List.size_toArray, List.size_toArray, bcs_len, bcs_len, noughts_len, hxl]
      rw [eSz] at ht3
      obtain ⟨w2, H2⟩ : ∃ w2, Hid (wb.alloc (.cells (bcs noughts).toArray 135) = w2) := ⟨_, rfl⟩
      rw [H2.out] at ht hk3 ht3 hrs3 h03
      obtain ⟨w3, H3⟩ : ∃ w3, Hid (w2.setCells wb.heap.size 0 (bcs noughts) = w3) := ⟨_, rfl⟩
      rw [H3.out] at hk3 ht3 hrs3 h03
      have hl4 : (w3.setCells wb.heap.size 0 (bcs x)).rangeAt wb.heap.size 0 (bcs x) := World.rangeAt_setCells_same _ _ _ _ (by rw [← List.size_toArray]; exact ht3)
      have hcv := run_conv_sec hl4 hxl
      have hk4 := hk3.trans (Kp.setCells (S := only wb.heap.size) wb.heap.size rfl (bcs x) 0 _) (S'' := none') (fun _ _ h => h) (fun k hk h => absurd hk (by unfold only at h; omega))
      go_upto_region 4 with (first
        | (refine wpList_alloc_sec rfl rfl ?_; rw [H2.out]; generalize wb.heap.size = g at *)
        | (refine wpList_store_mid rfl 135 (.tmp 5) (.tmp 18) rfl _ 0 (bcs noughts).toArray rfl rfl ht hI h1c ?_; rw [List.toList_toArray, H3.out]))
      clear ht hlk h0 h1 hrs
      go_upto_region 6 with (first
        | (refine wpList_load_mid rfl 135 (.tmp 27) rfl p.s (k * 64) rfl (bcs x) _ hrs3 hu rfl hI3 ?_)
        | (refine wpList_store_mid rfl 135 (.tmp 5) (.tmp 28) rfl _ 0 (bcs x).toArray rfl rfl ht3 hI2 h1c2 ?_; rw [List.toList_toArray]))
      generalize w3.setCells g 0 (bcs x) = w4 at *
      clear hl4 ht3 hrs3 h03
      go_wp2
      go_ret
      exact ⟨rfl, hk4⟩
  · have hh' : hasB D.n i = false := by simpa using hh
    have hE : rdL D i = [] := by simp [rdL, hh']
    rw [hE]
    go_enter Tryz.func82, Tryz.ntmps82
    go_wp2_with (go_at_call 107; refine (has_any _ _ _ _ hD).mono ?_; rintro e w' ⟨rfl, rfl⟩; rw [hh'])
    go_ret
    exact ⟨rfl, Kp.refl _ _⟩

end Go.Proofs.YtmnedhlgplkfhaaGreat

namespace Go.Proofs.YtmnedhlgplkfhaaGreat
open Go.RowKit
open Go.ChangeMaps (setBlock)
set_option linter.unusedVariables false

theorem infoSecZ : (Tryz.prog.info? 135).map (fun i => (i.zero, i.size, i.bytes)) = some (some (.agg (bcs noughts).toArray), 64, 64) := by kernel_rfl
theorem made_at (N k : Nat) (hk : k < N * 64) : (madeCells (bcs noughts).toArray (N * 64))[k]? = some (.int .u8 0) := by
  have hm : k % 64 < 64 := Nat.mod_lt _ (by omega)
  have hs : (bcs noughts).toArray.size = 64 := by simp [bcs_len, noughts_len]
  unfold madeCells
  rw [Array.getElem?_map, Array.getElem?_range, if_pos hk, hs]
  simp only [Option.map_some, Option.some.injEq]
  rw [getElem!_pos (bcs noughts).toArray (k % 64) (by omega)]
  have h1 := bcs_at noughts (k % 64) (by rw [noughts_len]; exact hm)
  have e0 : noughts[k % 64]'(by rw [noughts_len]; exact hm) = 0 := by unfold noughts; exact List.getElem_replicate _
  rw [e0] at h1
  exact (List.getElem?_eq_some_iff.1 h1).2
/-- A new device. -/
def fresh (N : Nat) : Dv := { n := N, s := fun _ => noughts, u := fun _ => none, c := 0, st := false, f := 0 }
theorem fresh_dev (w : World) (N : Nat) (hN : N ≤ 4096) :
    Dev (((w.alloc (.cells (madeCells (bcs noughts).toArray (N * 64)) 135)).alloc (.map #[] 0)).alloc (.cells #[.slice (some ⟨w.heap.size, 0, none⟩) N N, .map (some (w.heap.size + 1)), .int .i64 0, .bool false, .int .i64 0] 112))
      ⟨w.heap.size + 2, w.heap.size, w.heap.size + 1⟩ (fresh N) := by
  obtain ⟨wa, Ha⟩ : ∃ wa, wa = w.alloc (.cells (madeCells (bcs noughts).toArray (N * 64)) 135) := ⟨_, rfl⟩
  have sa : wa.heap.size = w.heap.size + 1 := by rw [Ha]; simp
  obtain ⟨wb, Hb⟩ : ∃ wb, wb = wa.alloc (.map #[] 0) := ⟨_, rfl⟩
  have sb : wb.heap.size = w.heap.size + 2 := by rw [Hb]; simp [sa]
  rw [← Ha, ← Hb]
  have ba : wa.heap[w.heap.size]? = some (.cells (madeCells (bcs noughts).toArray (N * 64)) 135 (0, 0)) := by rw [Ha]; exact heap_alloc_new w _
  have bb : wb.heap[w.heap.size + 1]? = some (.map #[] 0) := by rw [Hb, ← sa]; exact heap_alloc_new wa _
  have hk1 : Kp none' wa wb := by rw [Hb]; exact Kp.alloc _ _ _
  generalize ho : Obj.cells #[.slice (some ⟨w.heap.size, 0, none⟩) N N, .map (some (w.heap.size + 1)), .int .i64 0, .bool false, .int .i64 0] 112 = ob
  have hk2 : Kp none' wb (wb.alloc ob) := Kp.alloc _ _ _
  have bc : (wb.alloc ob).heap[w.heap.size + 2]? = some (.cells #[.slice (some ⟨w.heap.size, 0, none⟩) N N, .map (some (w.heap.size + 1)), .int .i64 0, .bool false, .int .i64 0] 112 (0, 0)) := by rw [← sb, ho]; exact heap_alloc_new wb _
  have ba2 : (wb.alloc ob).heap[w.heap.size]? = some (.cells (madeCells (bcs noughts).toArray (N * 64)) 135 (0, 0)) := by
    rw [hk2.block _ (by omega) (fun h => h), hk1.block _ (by omega) (fun h => h)]
    exact ba
  have bb2 : (wb.alloc ob).heap[w.heap.size + 1]? = some (.map #[] 0) := by
    rw [hk2.block _ (by omega) (fun h => h)]
    exact bb
  refine ⟨by rw [cell_of_row _ _ _ _ _ _ bc]; rfl, by rw [cell_of_row _ _ _ _ _ _ bc]; rfl, by rw [cell_of_row _ _ _ _ _ _ bc]; rfl, by rw [cell_of_row _ _ _ _ _ _ bc]; rfl, by rw [cell_of_row _ _ _ _ _ _ bc]; rfl, fun j => ?_, fun i hi => ?_, fun j hj => ?_, ?_, ⟨#[], 0, bb2, Mp.nil 0⟩,
    by simp, by simp, by simp, hN, fun i _ => noughts_len, fun i x hx => by cases hx⟩
  · unfold World.frozen?
    rw [show (wb.alloc ob).heap[(⟨w.heap.size + 2, j, none⟩ : Addr).block]? = _ from bc]
    simp
  · intro j v hv
    have hj : j < 64 := by have := (List.getElem?_eq_some_iff.1 hv).1; rw [bcs_len] at this; simpa [fresh, noughts_len] using this
    have hi' : i < N := hi
    rw [cell_of_row _ _ _ _ _ _ ba2, made_at N _ (by omega), ← hv]
    have := bcs_at noughts j (by rw [noughts_len]; exact hj)
    show _ = (bcs noughts)[j]?
    rw [this]
    have e0 : noughts[j]'(by rw [noughts_len]; exact hj) = 0 := by unfold noughts; exact List.getElem_replicate _
    rw [e0]
    rfl
  · have hj' : j < N * 64 := hj
    rw [Nat.zero_add, cell_of_row _ _ _ _ _ _ ba2, made_at N j hj']
    refine ⟨rfl, ?_⟩
    unfold World.frozen?
    rw [show (wb.alloc ob).heap[(⟨w.heap.size, j, none⟩ : Addr).block]? = _ from ba2]
    simp
  · show w.heap.size < _
    have := hk2.size
    omega

/-- How many sectors New makes. -/
def newN (n : Int) : Nat := (min (max n 0) 4096).toNat
set_option maxRecDepth 100000 in
set_option maxHeartbeats 400000 in
theorem new_any (n : Int) (w : World) :
    Calls Tryz.prog 59 #[.int .i64 n] w fun e w' => ∃ p : Dp, e = .returned (.pointer (some ⟨p.d, 0, none⟩)) ∧ Dev w' p (fresh (newN n)) ∧ Kp none' w w' ∧ ∀ k, p.mem k → w.heap.size ≤ k := by
  have hN : newN n ≤ 4096 := by unfold newN; omega
  have hcl : (min (max n 0) 4096 : Int) = (newN n : Int) := by unfold newN; omega
  obtain ⟨i, hi, hz0, hz1, hz2⟩ := info_parts infoSecZ
  have hmk := run_make (P := Tryz.prog) w 109 135 i _ Tryz.underlying109 hi hz0 .i64 .i64 (newN n : Int) (newN n : Int) (by omega) (Int.le_refl _) (by rw [hz2]; omega) (by omega)
  rw [hz1] at hmk
  simp only [Int.toNat_natCast, Value.cells] at hmk
  have hF := fresh_dev w (newN n) hN
  have hmm := @run_makeMap Tryz.prog
  clear hi hz0 hz1 hz2 i
  obtain ⟨N, HN⟩ : ∃ N, Hid (newN n = N) := ⟨_, rfl⟩
  rw [HN.out] at hmk hF hN hcl ⊢
  have hk := ((Kp.alloc none' w (.cells (madeCells (bcs noughts).toArray (N * 64)) 135)).then (Kp.alloc none' _ (.map #[] 0))).then (Kp.alloc none' _ (.cells #[.slice (some ⟨w.heap.size, 0, none⟩) N N, .map (some (w.heap.size + 1)), .int .i64 0, .bool false, .int .i64 0] 112))
  go_enter Tryz.func59, Tryz.ntmps59
  go_upto_region 2 with fail
  have eN : (if 4096 < if n < 0 then 0 else n then 4096 else if n < 0 then 0 else n) = (N : Int) := by
    rw [← hcl]
    by_cases h1 : n < 0
    · simp only [h1, if_true]
      omega
    · simp only [h1, if_false]
      split <;> omega
  rw [eN]
  clear hcl eN
  generalize (if n < 0 then 0 else n) = n1
  go_wp2_with (refine wpList_make_at rfl (.tmp 6) (.tmp 6) 109 rfl _ _ rfl rfl hmk ?_)
  go_ret
  exact ⟨⟨w.heap.size + 2, w.heap.size, w.heap.size + 1⟩, rfl, hF, hk, fun k h => by rcases h with rfl | rfl | rfl <;> simp⟩

end Go.Proofs.YtmnedhlgplkfhaaGreat

namespace Go.Proofs.YtmnedhlgplkfhaaGreat
open Go.RowKit
open Go.ChangeMaps (setBlock)
set_option linter.unusedVariables false

/-- How many entries are still to come. -/
def itLeft (w : World) (r : Nat) (es : Array MapEntry) : Nat := match w.heap[r]? with | some (.mapIter _ _ seen _) => (leftOf es seen).size | _ => 0
theorem itLeft_eq {w : World} {r m cl c0 : Nat} {seen : Array Nat} (es : Array MapEntry) (hr : w.heap[r]? = some (.mapIter (some m) cl seen c0)) : itLeft w r es = (leftOf es seen).size := by
  unfold itLeft
  rw [hr]

theorem wpList_range_at {P : Program} {w : World} {ops : Array Oper} {rest : List Oper} {o : Oper} {a : Act} {Q : Exit → Act → World → Prop} (hgd : o.guard = none) (l : Operand) (t : TypeId) (ho : o.op = .range t l)
    (v : Value) (hd : a.eval l = v) {v' : Value} {w' : World} (hr : (Instr.range t v).run P w = .ok v' w') (h : wpList P ops Q rest (a.put o.dst v') w') : wpList P ops Q (o :: rest) a w :=
  wpList_plain hgd fun _ hK => by
    unfold Oper.wp execOp
    simp only [ho, Sem.run_bind, Sem.run_pure, Result.andThen_ok, hd, hr]
    exact hK _ _ h

theorem wpList_next_it {w : World} {ops : Array Oper} {rest : List Oper} {o : Oper} {a : Act} {Q : Exit → Act → World → Prop} (hgd : o.guard = none) (it : Operand) (ho : o.op = .next it false) (r m cl c0 : Nat) (seen : Array Nat) (es : Array MapEntry) (u : Nat → Option (List UInt8))
    (hit : a.eval it = .pointer (some ⟨r, 0, none⟩)) (hr : w.heap[r]? = some (.mapIter (some m) cl seen c0)) (hm : w.heap[m]? = some (.map es cl)) (hM : Mp u es.toList cl) (hsc : cl ≤ c0)
    (hDone : (leftOf es seen).size = 0 → wpList Tryz.prog ops Q rest (a.put o.dst (.tuple #[.bool false])) w)
    (hMore : ∀ (e : MapEntry) (i : Nat) (x : List UInt8) (w2 : World), e ∈ es.toList → seen.contains e.born = false → u i = some x → e.key = .int .i64 (i : Int) → Kp (only r) w w2 → w2.heap.size = w.heap.size →
      w2.heap[r]? = some (.mapIter (some m) cl (seen.push e.born) cl) → (Instr.entry (.pointer (some ⟨r, 0, none⟩))).run Tryz.prog w2 = .ok (.tuple #[.int .i64 (i : Int), .agg (bcs x).toArray]) w2 →
      (leftOf es (seen.push e.born)).size < (leftOf es seen).size → wpList Tryz.prog ops Q rest (a.put o.dst (.tuple #[.bool true, .int .i64 (i : Int), .agg (bcs x).toArray])) w2) :
    wpList Tryz.prog ops Q (o :: rest) a w :=
  wpList_plain hgd fun _ hK => by
    unfold Oper.wp
    rcases run_next_at (P := Tryz.prog) w o.type r m cl c0 seen es cl hr hm hM.e4 hsc with ⟨h0, hrun⟩ | ⟨e, he, w1, hal, hrun⟩
    · simp [execOp, ho, hit, hrun, Result.andThen]
      exact hK _ _ (hDone h0)
    · obtain ⟨hem, hes⟩ := mem_left he
      obtain ⟨i, x, hu, hk, hv⟩ := hM.e1 e hem
      have hne : m ≠ r := by
        intro h
        rw [h, hr] at hm
        cases hm
      have hw1 : Kp none' w w1 := by rcases hal with rfl | rfl; exact Kp.refl _ _; exact Kp.drew _ _
      have hsz : w1.heap.size = w.heap.size := by rcases hal with rfl | rfl <;> rfl
      have hr1 : w1.heap[r]? = some (.mapIter (some m) cl seen c0) := by rcases hal with rfl | rfl <;> exact hr
      have hm1 : w1.heap[m]? = some (.map es cl) := by rcases hal with rfl | rfl <;> exact hm
      have hr2 : (setBlock w1 r (.mapIter (some m) cl (seen.push e.born) cl)).heap[r]? = some (.mapIter (some m) cl (seen.push e.born) cl) := (MapKept.heap_set hr1).1
      have hm2 : (setBlock w1 r (.mapIter (some m) cl (seen.push e.born) cl)).heap[m]? = some (.map es cl) := ((MapKept.heap_set hr1).2 m hne).trans hm1
      have hen := run_entry_at (P := Tryz.prog) _ r m cl seen es cl e hr2 hm2 hem hM.e5
      rw [hk, hv] at hrun hen
      simp [execOp, ho, hit, hrun, Result.andThen]
      exact hK _ _ (hMore e i x _ hem hes hu hk (hw1.nThen (Kp.setBlock _ _ _ rfl)) (by simp [ChangeMaps.setBlock, hsz]) hr2 hen (left_shrinks es seen e he))

end Go.Proofs.YtmnedhlgplkfhaaGreat

namespace Go.Proofs.YtmnedhlgplkfhaaGreat
open Go.RowKit
open Go.ChangeMaps (setBlock)
set_option linter.unusedVariables false

/-- Sync under way: what has been met is sure. -/
def SyR (w : World) (p : Dp) (D : Dv) (r : Nat) (es : Array MapEntry) (cl : Nat) (wr : World) (seen : Array Nat) (c0 : Nat) (sv : Nat → List UInt8) : Prop :=
  wr.heap[r]? = some (.mapIter (some p.m) cl seen c0) ∧ cl ≤ c0 ∧ wr.heap[p.m]? = some (.map es cl) ∧ Dev wr p { D with s := sv } ∧ Kp p.mem w wr ∧
    (∀ e ∈ es.toList, seen.contains e.born = true → ∀ i x, D.u i = some x → e.key = .int .i64 (i : Int) → sv i = x) ∧
    (∀ k : Nat, (∀ e ∈ es.toList, seen.contains e.born = true → e.key ≠ .int .i64 (k : Int)) → sv k = D.s k)

theorem SyR.done {w : World} {p : Dp} {D : Dv} {r : Nat} {es : Array MapEntry} {cl : Nat} {wr : World} {seen : Array Nat} {c0 : Nat} {sv : Nat → List UInt8} (h : SyR w p D r es cl wr seen c0 sv) (hM : Mp D.u es.toList cl) (h0 : (leftOf es seen).size = 0) : sv = D.at := by
  obtain ⟨_, _, _, _, _, h1, h2⟩ := h
  have hall := all_seen es seen h0
  funext k
  unfold Dv.at
  cases hu : D.u k with
  | none =>
    rw [h2 k (fun e he _ hk => by
      obtain ⟨i, x, hi, hk', _⟩ := hM.e1 e he
      rw [hk] at hk'
      have : i = k := by have := (Value.int.inj hk').2; omega
      subst this
      rw [hu] at hi
      cases hi)]
    rfl
  | some x =>
    obtain ⟨e, he, hk⟩ := hM.e2 k x hu
    rw [h1 e he (hall e he) k x hu hk]
    rfl
theorem SyR.step {w : World} {p : Dp} {D : Dv} {r : Nat} {es : Array MapEntry} {cl : Nat} {wr : World} {seen : Array Nat} {c0 : Nat} {sv : Nat → List UInt8} (h : SyR w p D r es cl wr seen c0 sv) (hM : Mp D.u es.toList cl) {e : MapEntry} {i : Nat} {x : List UInt8} {w3 : World}
    (he : e ∈ es.toList) (hu : D.u i = some x) (hk : e.key = .int .i64 (i : Int)) (hr : w3.heap[r]? = some (.mapIter (some p.m) cl (seen.push e.born) cl)) (hm : w3.heap[p.m]? = some (.map es cl)) (hD : Dev w3 p { D with s := upd sv i x }) (hK : Kp p.mem w w3) :
    SyR w p D r es cl w3 (seen.push e.born) cl (upd sv i x) := by
  obtain ⟨_, _, _, _, _, h1, h2⟩ := h
  refine ⟨hr, Nat.le_refl _, hm, hD, hK, fun e' he' hs i' x' hu' hk' => ?_, fun k hk' => ?_⟩
  · by_cases ei : i' = i
    · subst ei
      rw [hu] at hu'
      cases hu'
      simp [upd]
    · simp only [upd, ei, if_false]
      rw [contains_push] at hs
      cases hb : seen.contains e'.born
      · rw [hb, Bool.false_or] at hs
        have hbe : e'.born = e.born := by simpa using hs
        exfalso
        have hn := hM.e5
        have : e' = e := born_inj hn he' he hbe
        subst this
        rw [hk] at hk'
        have := (Value.int.inj hk').2
        omega
      · exact h1 e' he' hb i' x' hu' hk'
  · have hki : k ≠ i := by
      rintro rfl
      refine hk' e he ?_ hk
      rw [contains_push]
      simp
    simp only [upd, hki, if_false]
    exact h2 k (fun e' he' hs => hk' e' he' (by rw [contains_push, hs]; rfl))

/-- A variable of a sector's own, filled. -/
theorem sec_var (W : World) (x : List UInt8) (hx : x.length = 64) : ∃ W4 W5, Hid (W.alloc (.cells (bcs noughts).toArray 135) = W4) ∧ Hid (W4.setCells W.heap.size 0 (bcs x) = W5) ∧ W4.there W.heap.size 0 (bcs x).toArray.size ∧ W5.rangeAt W.heap.size 0 (bcs x) ∧ W5.there W.heap.size 0 64 ∧ Kp none' W W5 ∧ Kp none' W W4 := by
  have ht := sec_there W noughts
  have hk2 := (Kp.alloc none' W (.cells (bcs noughts).toArray 135))
  have hk3 := hk2.trans (Kp.setCells (S := only W.heap.size) W.heap.size rfl (bcs x) 0 _) (S'' := none') (fun _ _ h => h) (fun k hk h => absurd hk (by unfold only at h; omega))
  have eSz : (bcs x).toArray.size = noughts.length := by rw [List.size_toArray, bcs_len, noughts_len, hx]
  have eL : (bcs x).length = noughts.length := by rw [bcs_len, noughts_len, hx]
  refine ⟨_, _, rfl, rfl, by rw [eSz]; exact ht, World.rangeAt_setCells_same _ _ _ _ (by rw [eL]; exact ht), ?_, hk3, hk2⟩
  have := World.there_setCells ht W.heap.size 0 (bcs x)
  rw [noughts_len] at this
  exact this

/-- Behind a Sync. -/
def Dv.sync (D : Dv) : Dv := if stillB D then D.called else { D.called with s := D.at, u := fun _ => none }
def syE (D : Dv) : Int := if stillB D then 9 else 0
set_option maxRecDepth 100000 in
set_option maxHeartbeats 800000 in
theorem sync_any (p : Dp) (D : Dv) (w : World) (hD : Dev w p D) (hc0 : 0 ≤ D.c) (hc1 : D.c ≤ 1000000) :
    Calls Tryz.prog 97 #[.pointer (some ⟨p.d, 0, none⟩)] w fun e w' => e = .returned (.int .i64 (syE D)) ∧ Dev w' p D.sync ∧ Kp p.mem w w' := by
  by_cases hst : stillB D = true
  · have hE : syE D = 9 := by simp [syE, hst]
    have hW : D.sync = D.called := by simp [Dv.sync, hst]
    rw [hE, hW]
    go_enter Tryz.func97, Tryz.ntmps97
    go_wp2_with (go_at_call 119; refine (begin_any _ _ _ hD hc0 hc1).mono ?_; rintro e w1 ⟨rfl, hD1, hk1⟩; rw [if_pos hst])
    go_ret
    exact ⟨rfl, hD1, hk1⟩
  · have hE : syE D = 0 := by simp [syE, hst]
    have hW : D.sync = { D.called with s := D.at, u := fun _ => none } := by simp [Dv.sync, hst]
    rw [hE, hW]
    clear hE hW
    go_enter Tryz.func97, Tryz.ntmps97
    go_upto_region 4 with (go_at_call 119; refine (begin_any _ _ _ hD hc0 hc1).mono ?_; rintro e w1 ⟨rfl, hD1, hk1⟩; rw [if_neg hst])
    obtain ⟨es, cl, hm, hM⟩ := hD1.mp
    have h1 := hD1.c1
    have hrr := run_range_map (P := Tryz.prog) w1 110 _ _ p.m es cl Tryz.underlying110 hm
    have hka := Kp.alloc none' w1 (.mapIter (some p.m) cl #[] cl)
    have hr0 : (w1.alloc (.mapIter (some p.m) cl #[] cl)).heap[w1.heap.size]? = some (.mapIter (some p.m) cl #[] cl) := heap_alloc_new w1 _
    have S0 : SyR w p D.called w1.heap.size es cl (w1.alloc (.mapIter (some p.m) cl #[] cl)) #[] cl D.called.s :=
      ⟨hr0, Nat.le_refl _, by rw [hka.block _ hD1.lm (fun h => h)]; exact hm, hD1.keptN hka, hk1.thenN hka, fun e he hs => by simp at hs, fun k _ => rfl⟩
    have hrw : w.heap.size ≤ w1.heap.size := hk1.size
    have hrs : p.s ≠ w1.heap.size := Nat.ne_of_lt hD1.ls
    have hrm : p.m ≠ w1.heap.size := Nat.ne_of_lt hD1.lm
    have hrd : p.d ≠ w1.heap.size := Nat.ne_of_lt hD1.ld
    obtain ⟨w2, H2⟩ : ∃ w2, Hid (w1.alloc (.mapIter (some p.m) cl #[] cl) = w2) := ⟨_, rfl⟩
    rw [H2.out] at S0 hrr
    generalize w1.heap.size = r at *
    clear hm hka hr0 hD
    go_wp2_with (at_range; refine wpList_range_at rfl (.tmp 14) 110 rfl _ rfl hrr ?_)
    go_frame
    clear hrr
    go_loopw [4] (fun _ wr => ∃ seen c0 sv, SyR w p D.called r es cl wr seen c0 sv) (fun _ wr => itLeft wr r es)
    case atStart => exact ⟨_, _, _, S0⟩
    case round =>
      obtain ⟨seen, c0, sv, hS⟩ := hrel
      clear S0
      go_upto_region 5 with fail
      refine wp_region_lit ?_
      refine wpList_next_it rfl (.tmp 15) rfl r p.m cl c0 seen es D.called.u rfl hS.1 hS.2.2.1 hM hS.2.1 ?_ ?_
      · intro h0
        have hsv := hS.done hM h0
        obtain ⟨_, _, hm, hDr, hKr, _, _⟩ := hS
        rw [hsv] at hDr
        clear hsv h0
        have h1r := hDr.c1
        have hcl := fun ty => run_clearM ty hm
        have hF := hDr.setM #[] cl (fun _ => none) (Mp.nil cl) (fun i x h => by cases h)
        go_frame
        go_upto_region 8 with fail
        clear hm
        go_wp2_with (refine wpList_clear_at _ rfl (.tmp 28) 110 rfl _ rfl (hcl _) ?_)
        go_ret
        exact ⟨rfl, hF, hKr.then (Kp.setBlock _ _ _ (.inr (.inr rfl)))⟩
      · intro e i x w3 he hns hu hk hK3 hsz hr3 hen hlt
        have hKr := hS.2.2.2.2.1
        have hm3 : w3.heap[p.m]? = some (.map es cl) := by rw [hK3.block _ hS.2.2.2.1.lm hrm]; exact hS.2.2.1
        have hD3 : Dev w3 p { D.called with s := sv } := hS.2.2.2.1.kept hK3 (fun k hk h => by
          unfold only at h
          rcases hk with rfl | rfl | rfl
          · exact hrd h
          · exact hrs h
          · exact hrm h)
        have hK3' : Kp p.mem w w3 := hKr.trans hK3 (fun _ _ h => h) (fun k hk h => absurd hk (by unfold only at h; omega))
        go_frame
        go_upto_region 6 with fail
        have hxl := (hD3.l2 i x hu).2
        have hi := (hD3.l2 i x hu).1
        have HS : Hid (SyR w p D.called r es cl wr seen c0 sv) := hS
        have hlr : r < w3.heap.size := (Array.getElem?_eq_some_iff.1 hr3).1
        obtain ⟨w4, w5, H4, H5, ht, hl5, ht5, hk5, hk4⟩ := sec_var w3 x hxl
        have hD5 := hD3.keptN hk5
        have hr5 := (hk5.block r hlr (fun h => h)).trans hr3
        have hm5 := (hk5.block p.m hD3.lm (fun h => h)).trans hm3
        have hI : (Tryz.prog.info? 135).map (·.size) = some (bcs x).toArray.size := by rw [infoSec, List.size_toArray, bcs_len, hxl]
        have hI3 : (Tryz.prog.info? 135).map (·.size) = some (bcs x).length := by rw [infoSec, bcs_len, hxl]
        have h1c : ((bcs x).toArray).all (·.oneCell') = true := all_oneCell_toArray (bcs_one x)
        have hUs : Tryz.prog.underlying 135 = _ := Tryz.underlying135
        have HM : Hid (Mp D.called.u es.toList cl) := hM
        have HE : Hid (e ∈ es.toList ∧ D.called.u i = some x ∧ e.key = .int .i64 (i : Int)) := ⟨he, hu, hk⟩
        have HL : Hid (itLeft wr r es = (leftOf es seen).size) := itLeft_eq es hS.1
        have HLt : Hid ((leftOf es (seen.push e.born)).size < (leftOf es seen).size) := hlt
        have HK5 : Hid (Kp p.mem w w5) := hK3'.thenN hk5
        have HR5 : Hid (w5.heap[r]? = some (.mapIter (some p.m) cl (seen.push e.born) cl)) := hr5
        have HM5 : Hid (w5.heap[p.m]? = some (.map es cl)) := hm5
        clear hM hS he hu hk hlt hns hr3 hm3 hD3 hK3 hK3' hKr hr5 hm5 hk5 hsz hD1 hk1 hk4 ht5
        generalize hg : w3.heap.size = g at *
        go_upto_region 7 with (first
          | (refine wpList_alloc_sec rfl rfl ?_; rw [H4.out, hg])
          | (refine wpList_store_mid rfl 135 (.tmp 5) (.tmp 20) rfl _ 0 (bcs x).toArray rfl rfl ht hI h1c ?_; rw [List.toList_toArray, H5.out]))
        clear hen ht hg
        go_wp2_with (first
          | (refine wpList_load_mid rfl 135 (.tmp 5) rfl g 0 rfl (bcs x) _ hl5 hUs rfl hI3 ?_)
          | (go_at_call 120; refine (settle_any p { D.called with s := sv } i x _ hD5 hi hxl).mono ?_; rintro e' w6 ⟨rfl, hD6, hk6⟩))
        have hrl5 : r < w5.heap.size := (Array.getElem?_eq_some_iff.1 HR5.out).1
        have hm6 : w6.heap[p.m]? = some (.map es cl) := by rw [hk6.block _ hD5.lm (fun h => hD5.sm h.symm)]; exact HM5.out
        have hr6 : w6.heap[r]? = some (.mapIter (some p.m) cl (seen.push e.born) cl) := by rw [hk6.block _ hrl5 (fun h => hrs h.symm)]; exact HR5.out
        have S6 := HS.out.step HM.out HE.out.1 HE.out.2.1 HE.out.2.2 hr6 hm6 hD6 (HK5.out.then (hk6.mono (fun k _ h => .inr (.inl h))))
        go_roundw
        case rel => exact ⟨_, _, _, S6⟩
        case measure =>
          rw [HL.out, itLeft_eq es hr6]
          exact HLt.out

end Go.Proofs.YtmnedhlgplkfhaaGreat
