/- Contracts, over the turned program: a step of a script: what kind it is, and what it does to the program's device. Conditions: those that each theorem states. -/
import Derived.Test.YtlalnaaeljikgaaDLives
namespace Go.Proofs.Ytlalnaaeljikgaa
open Go.RowKit
set_option linter.unusedVariables false

/-- A step: its kind, its numbers, its text, and where its list of bools lies and what it holds. -/
structure OpD where
  k : Int
  i : Int
  s : ByteArray
  kv : Value
  l : List Bool
  c : Int
def OpD.cells (o : OpD) : Array Value := #[.int .i64 o.k, .int .i64 o.i, .string o.s, o.kv, .int .i64 o.c]
/-- It is sound, in a world whose blocks below B are those that came in. -/
def OpD.ok (o : OpD) (B : Nat) (w : World) : Prop := o.s.size ≤ maxLen ∧ Sl Value.bool B w o.kv o.l
theorem OpD.ok.kept {o : OpD} {B : Nat} {w w' : World} {S : Nat → Prop} (h : o.ok B w) (hk : Kp S w w') (hS : ∀ k, k < B → ¬ S k) : o.ok B w' := ⟨h.1, h.2.kept hk hS⟩
def OpD.kind (o : OpD) : Int := o.k % 4

theorem new_row (w : World) (cs : Array Value) (t : TypeId) : (w.alloc (.cells cs t)).heap[w.heap.size]? = some (.cells cs t (0, 0)) := heap_alloc_new w _
set_option maxRecDepth 100000 in
set_option maxHeartbeats 400000 in
theorem kind_any (o : OpD) (w : World) : Calls Try.prog 26 #[.agg o.cells] w fun e w' => e = .returned (.int .i64 o.kind) ∧ Kp none' w w' := by
  unfold OpD.cells
  have hk := Kp.alloc none' w (.cells #[.int .i64 o.k, .int .i64 o.i, .string o.s, o.kv, .int .i64 o.c] 34)
  go_enter Try.func26, Try.ntmps26
  go_wp2
  go_ret
  refine ⟨reti ?_, hk⟩
  unfold OpD.kind
  have e : IntKind.u64.wrap o.k = o.k % 18446744073709551616 := by rfl
  rw [e, Int.tmod_eq_emod_of_nonneg (by omega)]
  unfold wrap64
  omega

/-- What a step makes of a device, and answers. -/
def Dv.step (D : Dv) (o : OpD) : Dv := if o.kind = 0 then D.write o.i o.s else if o.kind = 1 then D.sync else if o.kind = 2 then D.stop o.i else D.crash o.l o.i o.c
def Dv.stepE (D : Dv) (o : OpD) : Int := if o.kind = 0 then wrE D o.i o.s else if o.kind = 1 then syE D else 0
theorem OpD.kinds (o : OpD) : o.kind = 0 ∨ o.kind = 1 ∨ o.kind = 2 ∨ o.kind = 3 := by unfold OpD.kind; omega

set_option maxRecDepth 100000 in
set_option maxHeartbeats 400000 in
theorem does_any (p : Dp) (D : Dv) (o : OpD) (B : Nat) (w : World) (hD : Dev w p D) (hc0 : 0 ≤ D.c) (hc1 : D.c ≤ 1000000) (ho : o.ok B w) (hB : ∀ k, p.mem k → B ≤ k) :
    Calls Try.prog 13 #[.pointer (some ⟨p.d, 0, none⟩), .agg o.cells] w fun e w' => e = .returned (.int .i64 (D.stepE o)) ∧ Dev w' p (D.step o) ∧ Kp p.mem w w' := by
  have hka := Kp.alloc none' w (.cells o.cells 34)
  have hb := new_row w o.cells 34
  have hl : w.heap.size < (w.alloc (.cells o.cells 34)).heap.size := by simp
  have hgm : ∀ k, p.mem k → k ≠ w.heap.size := fun k hk => Nat.ne_of_lt (hD.lt k hk)
  obtain ⟨wa, Ha⟩ : ∃ wa, Hid (w.alloc (.cells o.cells 34) = wa) := ⟨_, rfl⟩
  rw [Ha.out] at hka hb hl
  obtain ⟨g, HG⟩ : ∃ g, Hid (w.heap.size = g) := ⟨_, rfl⟩
  rw [HG.out] at hb hl hgm
  have hld := run_loadVar_row (P := Try.prog) wa g 34 34 o.cells (0, 0) _ hb Try.underlying34 rfl (by kernel_rfl)
  go_enter Try.func13, Try.ntmps13
  go_upto_region 1 with fail
  rw [Ha.out, HG.out]
  have c0 : wa.cell? ⟨g, 0, none⟩ = some (.int .i64 o.k) := by rw [cell_of_row _ _ _ _ _ _ hb]; rfl
  have c1 : wa.cell? ⟨g, 1, none⟩ = some (.int .i64 o.i) := by rw [cell_of_row _ _ _ _ _ _ hb]; rfl
  have c2 : wa.cell? ⟨g, 2, none⟩ = some (.string o.s) := by rw [cell_of_row _ _ _ _ _ _ hb]; rfl
  have c3 : wa.cell? ⟨g, 3, none⟩ = some o.kv := by rw [cell_of_row _ _ _ _ _ _ hb]; rfl
  have c4 : wa.cell? ⟨g, 4, none⟩ = some (.int .i64 o.c) := by rw [cell_of_row _ _ _ _ _ _ hb]; rfl
  have ho' : o.ok B wa := ho.kept hka (fun _ _ h => h)
  have hDa := hD.keptN hka
  clear hld hb
  go_upto_region 2 with (go_at_call 26; refine (kind_any o _).mono ?_; rintro e wb ⟨rfl, hkb⟩)
  have hDb := hDa.keptN hkb
  have hob := ho'.kept hkb (fun _ _ h => h)
  have hos := hob.1
  have d1 := hkb.cell c1 (fun h => h)
  have d2 := hkb.cell c2 (fun h => h)
  have d3 := hkb.cell c3 (fun h => h)
  have d4 := hkb.cell c4 (fun h => h)
  have hkw : Kp p.mem w wb := (hka.then hkb).mono (fun _ _ h => h.elim)
  clear c0 c1 c2 c3 c4 hD hDa ho ho' hka hkb
  rcases o.kinds with h | h | h | h
  · have HE : Hid (D.stepE o = wrE D o.i o.s) := by show _ = _; simp [Dv.stepE, h]
    have HW : Hid (D.step o = D.write o.i o.s) := by show _ = _; simp [Dv.step, h]
    rw [h]
    clear h
    go_wp2_with (go_at_call 28; refine (write_any p D o.i o.s _ hDb hc0 hc1 hos).mono ?_; rintro e wc ⟨rfl, hDc, hkc⟩)
    go_ret
    exact ⟨by rw [HE.out]; rfl, by rw [HW.out]; exact hDc, hkw.then hkc⟩
  · have HE : Hid (D.stepE o = syE D) := by show _ = _; simp [Dv.stepE, h]
    have HW : Hid (D.step o = D.sync) := by show _ = _; simp [Dv.step, h]
    rw [h]
    clear h
    go_wp2_with (go_at_call 25; refine (sync_any p D _ hDb hc0 hc1).mono ?_; rintro e wc ⟨rfl, hDc, hkc⟩)
    go_ret
    exact ⟨by rw [HE.out]; rfl, by rw [HW.out]; exact hDc, hkw.then hkc⟩
  · have HE : Hid (D.stepE o = 0) := by show _ = _; simp [Dv.stepE, h]
    have HW : Hid (D.step o = D.stop o.i) := by show _ = _; simp [Dv.step, h]
    rw [h]
    clear h
    go_wp2_with (go_at_call 27; refine (stop_any p D o.i _ hDb hc0 hc1).mono ?_; rintro e wc ⟨rfl, hDc, hkc⟩)
    go_ret
    exact ⟨by rw [HE.out]; rfl, by rw [HW.out]; exact hDc, hkw.then hkc⟩
  · have HE : Hid (D.stepE o = 0) := by show _ = _; simp [Dv.stepE, h]
    have HW : Hid (D.step o = D.crash o.l o.i o.c) := by show _ = _; simp [Dv.step, h]
    rw [h]
    clear h
    go_wp2_with (go_at_call 24; refine (crash_any p D o.kv o.l o.i o.c B _ hDb hc0 hc1 hob.2 hB).mono ?_; rintro e wc ⟨rfl, hDc, hkc⟩)
    go_ret
    exact ⟨by rw [HE.out]; rfl, by rw [HW.out]; exact hDc, hkw.then hkc⟩

/-- A step of a device that isn't there. -/
def nilE (o : OpD) : Int := if o.kind < 2 then 1 else 0
set_option maxRecDepth 100000 in
set_option maxHeartbeats 400000 in
theorem does_nil (o : OpD) (w : World) :
    Calls Try.prog 13 #[.pointer none, .agg o.cells] w fun e w' => e = .returned (.int .i64 (nilE o)) ∧ Kp none' w w' := by
  have hka := Kp.alloc none' w (.cells o.cells 34)
  have hb := new_row w o.cells 34
  obtain ⟨wa, Ha⟩ : ∃ wa, Hid (w.alloc (.cells o.cells 34) = wa) := ⟨_, rfl⟩
  rw [Ha.out] at hka hb
  obtain ⟨g, HG⟩ : ∃ g, Hid (w.heap.size = g) := ⟨_, rfl⟩
  rw [HG.out] at hb
  go_enter Try.func13, Try.ntmps13
  go_upto_region 1 with fail
  rw [Ha.out, HG.out]
  have c0 : wa.cell? ⟨g, 0, none⟩ = some (.int .i64 o.k) := by rw [cell_of_row _ _ _ _ _ _ hb]; rfl
  have c1 : wa.cell? ⟨g, 1, none⟩ = some (.int .i64 o.i) := by rw [cell_of_row _ _ _ _ _ _ hb]; rfl
  have c2 : wa.cell? ⟨g, 2, none⟩ = some (.string o.s) := by rw [cell_of_row _ _ _ _ _ _ hb]; rfl
  have c3 : wa.cell? ⟨g, 3, none⟩ = some o.kv := by rw [cell_of_row _ _ _ _ _ _ hb]; rfl
  have c4 : wa.cell? ⟨g, 4, none⟩ = some (.int .i64 o.c) := by rw [cell_of_row _ _ _ _ _ _ hb]; rfl
  clear hb
  go_upto_region 2 with (go_at_call 26; refine (kind_any o _).mono ?_; rintro e wb ⟨rfl, hkb⟩)
  have d1 := hkb.cell c1 (fun h => h)
  have d2 := hkb.cell c2 (fun h => h)
  have d3 := hkb.cell c3 (fun h => h)
  have d4 := hkb.cell c4 (fun h => h)
  have hkw : Kp none' w wb := hka.then hkb
  clear c0 c1 c2 c3 c4 hka hkb
  rcases o.kinds with h | h | h | h
  all_goals
    have HN : Hid (nilE o = if o.kind < 2 then 1 else 0) := rfl
    rw [h] at HN
    rw [h]
    clear h
    go_wp2_with (first
      | (go_at_call 28; refine (write_nil _ _ _).mono ?_; rintro e wc ⟨rfl, rfl⟩)
      | (go_at_call 25; refine (sync_nil _).mono ?_; rintro e wc ⟨rfl, rfl⟩)
      | (go_at_call 27; refine (stop_nil _ _).mono ?_; rintro e wc ⟨rfl, rfl⟩)
      | (go_at_call 24; refine (crash_nil _ _ _ _).mono ?_; rintro e wc ⟨rfl, rfl⟩)
      | fail)
    go_ret
    exact ⟨by rw [HN.out]; rfl, hkw⟩

end Go.Proofs.Ytlalnaaeljikgaa
