/- Contracts, over the turned program: a device's Write and Read. Conditions: those that each theorem states. -/
import Derived.Test.YtgfijbbibafdfaaGreatDMap
import Derived.Lib.BufferWrite
import Derived.Deep.WholeRow
import Derived.Maps.OwnOps
namespace Go.Proofs.YtgfijbbibafdfaaGreat
open Go.RowKit
open Go.ChangeMaps (setBlock)
set_option linter.unusedVariables false

theorem wpList_clear_at {P : Program} (w : World) {ops : Array Oper} {rest : List Oper} {o : Oper} {a : Act} {Q : Exit → Act → World → Prop} (hgd : o.guard = none) (d : Operand) (t : TypeId)
    (ho : o.op = .call { callee := .builtin .clear, args := #[d], argTypes := #[t] }) (v : Value) (hd : a.eval d = v) {v' : Value} {w' : World}
    (hr : (Builtin.clear_ #[t] o.type #[v]).run P w = .ok v' w') (h : wpList P ops Q rest (a.put o.dst v') w') : wpList P ops Q (o :: rest) a w :=
  wpList_plain hgd fun _ hK => by
    unfold Oper.wp execOp
    simp only [ho, resolve, invoke, builtin, Sem.run_bind, Sem.run_pure, Result.andThen_ok, List.map_toArray, List.map_cons, List.map_nil, hd, hr]
    exact hK _ _ h

def wrE (D : Dv) (i : Int) (s : ByteArray) : Int := if stillB D then 9 else if hasB D.n i then (if s.size ≤ 64 then 0 else 3) else 7
def Dv.write (D : Dv) (i : Int) (s : ByteArray) : Dv := if wrE D i s = 0 then { D.called with u := put D.u i.toNat (whole s.data.toList) } else D.called

theorem wpList_alloc_sec {w : World} {ops : Array Oper} {rest : List Oper} {o : Oper} {a : Act} {Q : Exit → Act → World → Prop} (hgd : o.guard = none) (ho : o.op = .alloc 79)
    (h : wpList Tryz.prog ops Q rest (a.put o.dst (.pointer (some ⟨w.heap.size, 0, none⟩))) (w.alloc (.cells (bcs noughts).toArray 79))) : wpList Tryz.prog ops Q (o :: rest) a w :=
  wpList_plain hgd fun _ hK => by
    unfold Oper.wp execOp
    simp only [ho, Instr.alloc, newVar, newRow, Value.cells, Sem.run_bind, Sem.run_pure, Result.andThen_ok, zeroSec]
    exact hK _ _ h
theorem run_copy_sec (w : World) (s : ByteArray) (h : s.size ≤ 64) : (Builtin.copy_ #[39, 9] 3 #[.slice (some ⟨w.heap.size, 0, none⟩) 64 64, .string s]).run Tryz.prog (w.alloc (.cells (bcs noughts).toArray 79)) =
    .ok (goInt s.size) (w.alloc (.cells (bcs (whole s.data.toList)).toArray 79)) := by
  have hr := Lib.run_copy_row_string (P := Tryz.prog) (w.alloc (.cells (bcs noughts).toArray 79)) 39 9 3 5 w.heap.size 0 64 64 s (bcs noughts).toArray 79 Tryz.underlying39 (by kernel_rfl) (heap_alloc_last w _) h (by simp [bcs_len, noughts_len]; omega)
  rw [hr, take_bcs s h, World.setRow_alloc_new]

set_option maxRecDepth 100000 in
set_option maxHeartbeats 400000 in
theorem write_any (p : Dp) (D : Dv) (i : Int) (s : ByteArray) (w : World) (hD : Dev w p D) (hc0 : 0 ≤ D.c) (hc1 : D.c ≤ 1000000) (hs : s.size ≤ maxLen) :
    Calls Tryz.prog 34 #[.pointer (some ⟨p.d, 0, none⟩), .int .i64 i, .string s] w fun e w' => e = .returned (.int .i64 (wrE D i s)) ∧ Dev w' p (D.write i s) ∧ Kp p.mem w w' := by
  unfold maxLen at hs
  by_cases hst : stillB D = true
  · have hE : wrE D i s = 9 := by simp [wrE, hst]
    have hW : D.write i s = D.called := by simp [Dv.write, hE]
    rw [hE, hW]
    go_enter Tryz.func34, Tryz.ntmps34
    go_wp2_with (go_at_call 53; refine (begin_any _ _ _ hD hc0 hc1).mono ?_; rintro e w1 ⟨rfl, hD1, hk1⟩; rw [if_pos hst])
    go_ret
    exact ⟨rfl, hD1, hk1⟩
  · have hst' : stillB D = false := by simpa using hst
    by_cases hh : hasB D.n i = true
    · by_cases hsz : s.size ≤ 64
      · have hE : wrE D i s = 0 := by simp [wrE, hst', hh, hsz]
        have hW : D.write i s = { D.called with u := put D.u i.toNat (whole s.data.toList) } := by simp [Dv.write, hE]
        rw [hE, hW]
        obtain ⟨k, rfl⟩ : ∃ k : Nat, i = k := ⟨i.toNat, by simp [hasB] at hh; omega⟩
        have hk : k < D.n := by simp [hasB] at hh; omega
        have HC : Hid (∀ W : World, (Builtin.copy_ #[39, 9] 3 #[.slice (some ⟨W.heap.size, 0, none⟩) 64 64, .string s]).run Tryz.prog (W.alloc (.cells (bcs noughts).toArray 79)) =
          .ok (goInt s.size) (W.alloc (.cells (bcs (whole s.data.toList)).toArray 79))) := fun W => run_copy_sec W s hsz
        have hwl : (bcs (whole s.data.toList)).length = 64 := by rw [bcs_len, whole_len]
        obtain ⟨X, HX⟩ : ∃ X, Hid (whole s.data.toList = X) := ⟨_, rfl⟩
        rw [HX.out] at hwl HC
        clear hE hW
        go_enter Tryz.func34, Tryz.ntmps34
        go_upto_region 8 with (first
          | (go_at_call 53; refine (begin_any _ _ _ hD hc0 hc1).mono ?_; rintro e w1 ⟨rfl, hD1, hk1⟩; rw [if_neg hst])
          | (go_at_call 54; refine (has_any _ _ _ _ hD1).mono ?_; rintro e wb ⟨rfl, rfl⟩; rw [show hasB D.called.n k = true from hh]))
        refine wp_region_lit ?_
        refine wpList_alloc_sec rfl rfl ?_
        go_frame
        have hcp := HC.out wb
        have hl3 := sec_new wb X
        have hk3 := Kp.alloc none' wb (.cells (bcs X).toArray 79)
        obtain ⟨w2, H2⟩ : ∃ w2, Hid (wb.alloc (.cells (bcs noughts).toArray 79) = w2) := ⟨_, rfl⟩
        obtain ⟨w3, H3⟩ : ∃ w3, Hid (wb.alloc (.cells (bcs X).toArray 79) = w3) := ⟨_, rfl⟩
        rw [H3.out] at hcp hl3 hk3
        rw [H2.out] at hcp ⊢
        have hgm : p.m ≠ wb.heap.size := Nat.ne_of_lt hD1.lm
        generalize wb.heap.size = g at *
        go_upto_region 10 with (refine wpList_copy_at _ rfl (.tmp 21) (.tmp 22) 39 9 rfl _ _ rfl rfl hcp ?_)
        go_frame
        have hD3 := (hD1.keptN hk3).drew
        have hK3 : Kp p.mem w w3.drew := (hk1.thenN hk3).then (Kp.drew _ _)
        obtain ⟨es, cl, hm, hM⟩ := hD3.mp
        obtain ⟨es', cl', hr, hM'⟩ := run_putM hm hM k X
        have h1 := hD3.c1
        have hl4 : w3.drew.rangeAt g 0 (bcs X) := hl3
        have k1 : (setBlock w3.drew p.m (.map es' cl')).cell? ⟨p.d, 1, none⟩ = some (.map (some p.m)) ∧ (setBlock w3.drew p.m (.map es' cl')).rangeAt g 0 (bcs X) :=
          ⟨(Kp.setBlock (S := only p.m) w3.drew p.m _ rfl).cell h1 hD3.dm, (Kp.setBlock (S := only p.m) w3.drew p.m _ rfl).rangeAt hl4 (Ne.symm hgm)⟩
        have hu : Tryz.prog.underlying 79 = _ := Tryz.underlying79
        have hI : (Tryz.prog.info? 79).map (·.size) = some (bcs X).length := by rw [infoSec, hwl]
        have HF : Hid (Dev (setBlock w3.drew p.m (.map es' cl')) p { D.called with u := put D.u k X }) := by
          refine hD3.setM es' cl' _ hM' (fun j x hx => ?_)
          by_cases e : j = k
          · subst e
            simp [put] at hx
            subst hx
            exact ⟨hk, by rw [← bcs_len]; exact hwl⟩
          · simp only [put, e, if_false] at hx
            exact hD3.l2 j x hx
        clear hm hM hM' hl3 hcp HC hD hD1 hk1 hk3
        go_region_held_law (fun W => W.cell? ⟨p.d, 1, none⟩ = some (.map (some p.m)) ∧ W.rangeAt g 0 (bcs X)) (first | exact ⟨h1, hl4⟩ | exact k1) (fail)
        go_wp2
        go_ret
        rw [HX.out]
        exact ⟨rfl, HF.out, hK3.then (Kp.setBlock _ _ _ (.inr (.inr rfl)))⟩
      · have hE : wrE D i s = 3 := by simp [wrE, hst', hh, hsz]
        have hW : D.write i s = D.called := by simp [Dv.write, hE]
        rw [hE, hW]
        go_enter Tryz.func34, Tryz.ntmps34
        go_wp2_with (first
          | (go_at_call 53; refine (begin_any _ _ _ hD hc0 hc1).mono ?_; rintro e w1 ⟨rfl, hD1, hk1⟩; rw [if_neg hst])
          | (go_at_call 54; refine (has_any _ _ _ _ hD1).mono ?_; rintro e w' ⟨rfl, rfl⟩; rw [show hasB D.called.n i = true from hh]))
        go_ret
        exact ⟨rfl, hD1, hk1⟩
    · have hh' : hasB D.n i = false := by simpa using hh
      have hE : wrE D i s = 7 := by simp [wrE, hst', hh']
      have hW : D.write i s = D.called := by simp [Dv.write, hE]
      rw [hE, hW]
      go_enter Tryz.func34, Tryz.ntmps34
      go_wp2_with (first
        | (go_at_call 53; refine (begin_any _ _ _ hD hc0 hc1).mono ?_; rintro e w1 ⟨rfl, hD1, hk1⟩; rw [if_neg hst])
        | (go_at_call 54; refine (has_any _ _ _ _ hD1).mono ?_; rintro e w' ⟨rfl, rfl⟩; rw [show hasB D.called.n i = false from hh']))
      go_ret
      exact ⟨rfl, hD1, hk1⟩

end Go.Proofs.YtgfijbbibafdfaaGreat
