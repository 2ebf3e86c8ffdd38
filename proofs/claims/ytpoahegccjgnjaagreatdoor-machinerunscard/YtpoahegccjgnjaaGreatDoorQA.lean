/- Contracts, over the turned program: check.Target, firstIsOther, leaves, Registers and leads, and the document's Target, ends and Registers, answer as the chapter says of one instruction. Conditions: those that each theorem states. -/
import Derived.Test.YtpoahegccjgnjaaGreatDoorQMath
import Derived.Test.YtpoahegccjgnjaaGreatDoorIRef
import Derived.Test.YtpoahegccjgnjaaGreatDoorIApp
import Derived.Test.YtpoahegccjgnjaaGreatDoorIWr
namespace Go.Proofs.YtpoahegccjgnjaaGreatDoor
open Go.RowKit
set_option linter.unusedVariables false

/-- The instruction to go on at; 0: there is no such operand. -/
def tgI (x : In) : Int := if hasT x then x.a else 0
theorem hasT_cases (op : Int) : (op = 9) ∨ (op ≠ 9 ∧ op = 10) ∨ (op ≠ 9 ∧ op ≠ 10) := by omega
theorem ends_cases (op : Int) : (op = 9) ∨ (op ≠ 9 ∧ op = 18) ∨ (op ≠ 9 ∧ op ≠ 18 ∧ op = 19) ∨ (op ≠ 9 ∧ op ≠ 18 ∧ op ≠ 19) := by omega
theorem skip_cases (op : Int) : (op = 9) ∨ (op ≠ 9 ∧ op = 10) ∨ (op ≠ 9 ∧ op ≠ 10 ∧ op = 16) ∨ (op ≠ 9 ∧ op ≠ 10 ∧ op ≠ 16) := by omega
theorem beq_no {a b : Int} (h : a ≠ b) : (a == b) = false := by simpa using h
theorem beq_yes {a b : Int} (h : a = b) : (a == b) = true := by simpa using h

set_option maxRecDepth 100000 in
set_option maxHeartbeats 400000 in
theorem qtarget_any (x : In) (w : World) :
    Calls Tryz.prog 89 #[x.val] w fun e w' => e = .returned (.tuple #[.int .i64 (tgI x), .bool (hasT x)]) ∧ w.grownBy w' none := by
  have hb := Ib.new w x
  have hg0 := World.grownBy_alloc w (.cells #[.int .i64 x.op, .int .i64 x.a, .int .i64 x.b, .int .i64 x.c, .int .i64 x.v.k, .int .i64 x.v.n, .string x.v.s] 44) none
  obtain ⟨T, HT⟩ : ∃ T, Hid (tgI x = T) := ⟨_, rfl⟩
  obtain ⟨H, HH⟩ : ∃ H, Hid (hasT x = H) := ⟨_, rfl⟩
  rw [HT.out, HH.out]
  obtain ⟨c0, c1, c2, c3, c4, c5, c6⟩ := hb.cs
  unfold In.val
  rcases hasT_cases x.op with h | ⟨h, h'⟩ | ⟨h, h'⟩
  · have e1 : H = true := by rw [← HH.out]; unfold hasT; rw [beq_yes h]; rfl
    have e2 : T = x.a := by rw [← HT.out]; unfold tgI; rw [HH.out, e1]; rfl
    subst e1 e2
    have t1 := beq_yes h
    clear h
    go_enter Tryz.func89, Tryz.ntmps89
    go_wp2
    go_ret2
    exact ⟨rfl, hg0⟩
  · have e1 : H = true := by rw [← HH.out]; unfold hasT; rw [beq_yes h', Bool.or_true]
    have e2 : T = x.a := by rw [← HT.out]; unfold tgI; rw [HH.out, e1]; rfl
    subst e1 e2
    have t1 := beq_no h
    have t2 := beq_yes h'
    clear h h'
    go_enter Tryz.func89, Tryz.ntmps89
    go_wp2
    go_ret2
    exact ⟨rfl, hg0⟩
  · have e1 : H = false := by rw [← HH.out]; unfold hasT; rw [beq_no h, beq_no h']; rfl
    have e2 : T = 0 := by rw [← HT.out]; unfold tgI; rw [HH.out, e1]; rfl
    subst e1 e2
    have t1 := beq_no h
    have t2 := beq_no h'
    clear h h'
    go_enter Tryz.func89, Tryz.ntmps89
    go_wp2
    go_ret2
    exact ⟨rfl, hg0⟩

set_option maxRecDepth 100000 in
set_option maxHeartbeats 400000 in
theorem qrtarget_any (x : In) (w : World) :
    Calls Tryz.prog 53 #[x.val] w fun e w' => e = .returned (.tuple #[.int .i64 (tgI x), .bool (hasT x)]) ∧ w.grownBy w' none := by
  have hb := Ib.new w x
  have hg0 := World.grownBy_alloc w (.cells #[.int .i64 x.op, .int .i64 x.a, .int .i64 x.b, .int .i64 x.c, .int .i64 x.v.k, .int .i64 x.v.n, .string x.v.s] 44) none
  obtain ⟨T, HT⟩ : ∃ T, Hid (tgI x = T) := ⟨_, rfl⟩
  obtain ⟨H, HH⟩ : ∃ H, Hid (hasT x = H) := ⟨_, rfl⟩
  rw [HT.out, HH.out]
  obtain ⟨c0, c1, c2, c3, c4, c5, c6⟩ := hb.cs
  unfold In.val
  rcases hasT_cases x.op with h | ⟨h, h'⟩ | ⟨h, h'⟩
  · have e1 : H = true := by rw [← HH.out]; unfold hasT; rw [beq_yes h]; rfl
    have e2 : T = x.a := by rw [← HT.out]; unfold tgI; rw [HH.out, e1]; rfl
    subst e1 e2
    have t1 := beq_yes h
    clear h
    go_enter Tryz.func53, Tryz.ntmps53
    go_wp2
    go_ret2
    exact ⟨rfl, hg0⟩
  · have e1 : H = true := by rw [← HH.out]; unfold hasT; rw [beq_yes h', Bool.or_true]
    have e2 : T = x.a := by rw [← HT.out]; unfold tgI; rw [HH.out, e1]; rfl
    subst e1 e2
    have t1 := beq_no h
    have t2 := beq_yes h'
    clear h h'
    go_enter Tryz.func53, Tryz.ntmps53
    go_wp2
    go_ret2
    exact ⟨rfl, hg0⟩
  · have e1 : H = false := by rw [← HH.out]; unfold hasT; rw [beq_no h, beq_no h']; rfl
    have e2 : T = 0 := by rw [← HT.out]; unfold tgI; rw [HH.out, e1]; rfl
    subst e1 e2
    have t1 := beq_no h
    have t2 := beq_no h'
    clear h h'
    go_enter Tryz.func53, Tryz.ntmps53
    go_wp2
    go_ret2
    exact ⟨rfl, hg0⟩

set_option maxRecDepth 100000 in
set_option maxHeartbeats 400000 in
theorem qrends_any (x : In) (w : World) :
    Calls Tryz.prog 54 #[x.val] w fun e w' => e = .returned (.bool (endsI x)) ∧ w.grownBy w' none := by
  have hb := Ib.new w x
  have hg0 := World.grownBy_alloc w (.cells #[.int .i64 x.op, .int .i64 x.a, .int .i64 x.b, .int .i64 x.c, .int .i64 x.v.k, .int .i64 x.v.n, .string x.v.s] 44) none
  obtain ⟨H, HH⟩ : ∃ H, Hid (endsI x = H) := ⟨_, rfl⟩
  rw [HH.out]
  obtain ⟨c0, c1, c2, c3, c4, c5, c6⟩ := hb.cs
  unfold In.val
  rcases ends_cases x.op with h | ⟨h, h'⟩ | ⟨h, h', h''⟩ | ⟨h, h', h''⟩
  · have e1 : H = true := by rw [← HH.out]; unfold endsI; rw [beq_yes h]; rfl
    subst e1
    have t1 := beq_yes h
    clear h
    go_enter Tryz.func54, Tryz.ntmps54
    go_wp2
    go_ret
    exact ⟨rfl, hg0⟩
  · have e1 : H = true := by rw [← HH.out]; unfold endsI; rw [beq_no h, beq_yes h']; rfl
    subst e1
    have t1 := beq_no h
    have t2 := beq_yes h'
    clear h h'
    go_enter Tryz.func54, Tryz.ntmps54
    go_wp2
    go_ret
    exact ⟨rfl, hg0⟩
  · have e1 : H = true := by rw [← HH.out]; unfold endsI; rw [beq_no h, beq_no h', beq_yes h'']; rfl
    subst e1
    have t1 := beq_no h
    have t2 := beq_no h'
    have t3 := beq_yes h''
    clear h h' h''
    go_enter Tryz.func54, Tryz.ntmps54
    go_wp2
    go_ret
    exact ⟨rfl, hg0⟩
  · have e1 : H = false := by rw [← HH.out]; unfold endsI; rw [beq_no h, beq_no h', beq_no h'']; rfl
    subst e1
    have t1 := beq_no h
    have t2 := beq_no h'
    have t3 := beq_no h''
    clear h h' h''
    go_enter Tryz.func54, Tryz.ntmps54
    go_wp2
    go_ret
    exact ⟨rfl, hg0⟩

set_option maxRecDepth 100000 in
set_option maxHeartbeats 400000 in
theorem qleaves_any (x : In) (w : World) :
    Calls Tryz.prog 90 #[.int .i64 x.op] w fun e w' => e = .returned (.bool (endsI x)) ∧ w' = w := by
  obtain ⟨H, HH⟩ : ∃ H, Hid (endsI x = H) := ⟨_, rfl⟩
  rw [HH.out]
  rcases ends_cases x.op with h | ⟨h, h'⟩ | ⟨h, h', h''⟩ | ⟨h, h', h''⟩
  · have e1 : H = true := by rw [← HH.out]; unfold endsI; rw [beq_yes h]; rfl
    subst e1
    have t1 := beq_yes h
    clear h
    generalize x.op = op at *
    go_enter Tryz.func90, Tryz.ntmps90
    go_wp2
    go_ret
    exact ⟨rfl, rfl⟩
  · have e1 : H = true := by rw [← HH.out]; unfold endsI; rw [beq_no h, beq_yes h']; rfl
    subst e1
    have t1 := beq_no h
    have t2 := beq_yes h'
    clear h h'
    generalize x.op = op at *
    go_enter Tryz.func90, Tryz.ntmps90
    go_wp2
    go_ret
    exact ⟨rfl, rfl⟩
  · have e1 : H = true := by rw [← HH.out]; unfold endsI; rw [beq_no h, beq_no h', beq_yes h'']; rfl
    subst e1
    have t1 := beq_no h
    have t2 := beq_no h'
    have t3 := beq_yes h''
    clear h h' h''
    generalize x.op = op at *
    go_enter Tryz.func90, Tryz.ntmps90
    go_wp2
    go_ret
    exact ⟨rfl, rfl⟩
  · have e1 : H = false := by rw [← HH.out]; unfold endsI; rw [beq_no h, beq_no h', beq_no h'']; rfl
    subst e1
    have t1 := beq_no h
    have t2 := beq_no h'
    have t3 := beq_no h''
    clear h h' h''
    generalize x.op = op at *
    go_enter Tryz.func90, Tryz.ntmps90
    go_wp2
    go_ret
    exact ⟨rfl, rfl⟩

set_option maxRecDepth 100000 in
set_option maxHeartbeats 400000 in
theorem qother_any (x : In) (w : World) :
    Calls Tryz.prog 103 #[.int .i64 x.op] w fun e w' => e = .returned (.bool (skipA x.op)) ∧ w' = w := by
  obtain ⟨H, HH⟩ : ∃ H, Hid (skipA x.op = H) := ⟨_, rfl⟩
  rw [HH.out]
  rcases skip_cases x.op with h | ⟨h, h'⟩ | ⟨h, h', h''⟩ | ⟨h, h', h''⟩
  · have e1 : H = true := by rw [← HH.out]; unfold skipA; rw [beq_yes h]; rfl
    subst e1
    have t1 := beq_yes h
    clear h HH
    generalize x.op = op at *
    go_enter Tryz.func103, Tryz.ntmps103
    go_wp2
    go_ret
    exact ⟨rfl, rfl⟩
  · have e1 : H = true := by rw [← HH.out]; unfold skipA; rw [beq_no h, beq_yes h']; rfl
    subst e1
    have t1 := beq_no h
    have t2 := beq_yes h'
    clear h h' HH
    generalize x.op = op at *
    go_enter Tryz.func103, Tryz.ntmps103
    go_wp2
    go_ret
    exact ⟨rfl, rfl⟩
  · have e1 : H = true := by rw [← HH.out]; unfold skipA; rw [beq_no h, beq_no h', beq_yes h'']; rfl
    subst e1
    have t1 := beq_no h
    have t2 := beq_no h'
    have t3 := beq_yes h''
    clear h h' h'' HH
    generalize x.op = op at *
    go_enter Tryz.func103, Tryz.ntmps103
    go_wp2
    go_ret
    exact ⟨rfl, rfl⟩
  · have e1 : H = false := by rw [← HH.out]; unfold skipA; rw [beq_no h, beq_no h', beq_no h'']; rfl
    subst e1
    have t1 := beq_no h
    have t2 := beq_no h'
    have t3 := beq_no h''
    clear h h' h'' HH
    generalize x.op = op at *
    go_enter Tryz.func103, Tryz.ntmps103
    go_wp2
    go_ret
    exact ⟨rfl, rfl⟩

end Go.Proofs.YtpoahegccjgnjaaGreatDoor
