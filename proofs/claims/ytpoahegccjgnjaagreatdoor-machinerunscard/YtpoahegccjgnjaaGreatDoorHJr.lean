/- Effects in a block of their own, and as they are handed back. Conditions: those that each theorem states. Contracts, over the turned program: the first frame of an argument. Conditions: those that each theorem states. -/
import Derived.Test.YtpoahegccjgnjaaGreatDoorHDefs
import Derived.Test.YtpoahegccjgnjaaGreatDoorIOp
import Derived.Test.YtpoahegccjgnjaaGreatDoorKRead
import Derived.Test.YtpoahegccjgnjaaGreatDoorHJa
import Derived.Test.YtpoahegccjgnjaaGreatDoorHJo
import Derived.Test.YtpoahegccjgnjaaGreatDoorHRb
import Derived.Test.YtpoahegccjgnjaaGreatDoorHJm
import Derived.Laws.CopyRow
namespace Go.Proofs.YtpoahegccjgnjaaGreatDoor
open Go.RowKit
set_option linter.unusedVariables false

def Eb (w : World) (b : Nat) (pv ov kv : Value) (sl en : Int) (v : V) (fp : Int) (fr : Value) : Prop := w.heap[b]? = some (.cells #[pv, ov, kv, .int .i64 sl, .int .i64 en, .int .i64 v.k, .int .i64 v.n, .string v.s, .int .i64 fp, fr] 33 (0, 0))
section
variable {w : World} {b : Nat} {pv ov kv fr : Value} {sl en fp : Int} {v : V}
theorem Eb.lt (h : Eb w b pv ov kv sl en v fp fr) : b < w.heap.size := (Array.getElem?_eq_some_iff.1 h).1
theorem Eb.kept {w' : World} {row : Option Nat} (h : Eb w b pv ov kv sl en v fp fr) (hg : w.grownBy w' row) (hne : some b ≠ row) : Eb w' b pv ov kv sl en v fp fr := by
  unfold Eb
  rw [hg.block b h.lt hne]
  exact h
theorem Eb.kp {S : Nat → Prop} {w' : World} (h : Eb w b pv ov kv sl en v fp fr) (hk : Kp S w w') (hne : ¬ S b) : Eb w' b pv ov kv sl en v fp fr := by
  unfold Eb
  rw [hk.block b h.lt hne]
  exact h
theorem Eb.fz (h : Eb w b pv ov kv sl en v fp fr) (j : Nat) : w.frozen? ⟨b, j, none⟩ = false := by
  unfold World.frozen?
  rw [show w.heap[(⟨b, j, none⟩ : Addr).block]? = _ from h]
  simp
theorem Eb.cs (h : Eb w b pv ov kv sl en v fp fr) : w.cell? ⟨b, 0, none⟩ = some pv ∧ w.cell? ⟨b, 1, none⟩ = some ov ∧ w.cell? ⟨b, 2, none⟩ = some kv ∧ w.cell? ⟨b, 3, none⟩ = some (.int .i64 sl) ∧ w.cell? ⟨b, 4, none⟩ = some (.int .i64 en) ∧ w.cell? ⟨b, 5, none⟩ = some (.int .i64 v.k) ∧ w.cell? ⟨b, 6, none⟩ = some (.int .i64 v.n) ∧ w.cell? ⟨b, 7, none⟩ = some (.string v.s) ∧ w.cell? ⟨b, 8, none⟩ = some (.int .i64 fp) ∧ w.cell? ⟨b, 9, none⟩ = some fr := by
  refine ⟨?_, ?_, ?_, ?_, ?_, ?_, ?_, ?_, ?_, ?_⟩
  · rw [cell_of_row w b 0 _ 33 (0, 0) h]; rfl
  · rw [cell_of_row w b 1 _ 33 (0, 0) h]; rfl
  · rw [cell_of_row w b 2 _ 33 (0, 0) h]; rfl
  · rw [cell_of_row w b 3 _ 33 (0, 0) h]; rfl
  · rw [cell_of_row w b 4 _ 33 (0, 0) h]; rfl
  · rw [cell_of_row w b 5 _ 33 (0, 0) h]; rfl
  · rw [cell_of_row w b 6 _ 33 (0, 0) h]; rfl
  · rw [cell_of_row w b 7 _ 33 (0, 0) h]; rfl
  · rw [cell_of_row w b 8 _ 33 (0, 0) h]; rfl
  · rw [cell_of_row w b 9 _ 33 (0, 0) h]; rfl
theorem Eb.set (h : Eb w b pv ov kv sl en v fp fr) (pv' ov' kv' : Value) (sl' en' : Int) (v' : V) (fp' : Int) (fr' : Value) :
    Eb ((((((((((w.setCell ⟨b, 0, none⟩ pv').setCell ⟨b, 1, none⟩ ov').setCell ⟨b, 2, none⟩ kv').setCell ⟨b, 3, none⟩ (.int .i64 sl')).setCell ⟨b, 4, none⟩ (.int .i64 en')).setCell ⟨b, 5, none⟩ (.int .i64 v'.k)).setCell ⟨b, 6, none⟩ (.int .i64 v'.n)).setCell ⟨b, 7, none⟩ (.string v'.s)).setCell ⟨b, 8, none⟩ (.int .i64 fp')).setCell ⟨b, 9, none⟩ fr') b pv' ov' kv' sl' en' v' fp' fr' ∧ w.grownBy ((((((((((w.setCell ⟨b, 0, none⟩ pv').setCell ⟨b, 1, none⟩ ov').setCell ⟨b, 2, none⟩ kv').setCell ⟨b, 3, none⟩ (.int .i64 sl')).setCell ⟨b, 4, none⟩ (.int .i64 en')).setCell ⟨b, 5, none⟩ (.int .i64 v'.k)).setCell ⟨b, 6, none⟩ (.int .i64 v'.n)).setCell ⟨b, 7, none⟩ (.string v'.s)).setCell ⟨b, 8, none⟩ (.int .i64 fp')).setCell ⟨b, 9, none⟩ fr') (some b) := by
  have g : ∀ (w : World) (o : Nat) (u : Value), w.grownBy (w.setCell ⟨b, o, none⟩ u) (some b) := fun w o u => ⟨rfl, rfl, rfl, by simp, fun k _ hk => heap_setCell_other w ⟨b, o, none⟩ k u (fun e => hk (by simp [e]))⟩
  have h0 : (w.setCell ⟨b, 0, none⟩ pv').heap[b]? = some (.cells #[pv', ov, kv, .int .i64 sl, .int .i64 en, .int .i64 v.k, .int .i64 v.n, .string v.s, .int .i64 fp, fr] 33 (0, 0)) := heap_setCell_same _ b 0 _ _ pv' h
  have h1 : ((w.setCell ⟨b, 0, none⟩ pv').setCell ⟨b, 1, none⟩ ov').heap[b]? = some (.cells #[pv', ov', kv, .int .i64 sl, .int .i64 en, .int .i64 v.k, .int .i64 v.n, .string v.s, .int .i64 fp, fr] 33 (0, 0)) := heap_setCell_same _ b 1 _ _ ov' h0
  have h2 : (((w.setCell ⟨b, 0, none⟩ pv').setCell ⟨b, 1, none⟩ ov').setCell ⟨b, 2, none⟩ kv').heap[b]? = some (.cells #[pv', ov', kv', .int .i64 sl, .int .i64 en, .int .i64 v.k, .int .i64 v.n, .string v.s, .int .i64 fp, fr] 33 (0, 0)) := heap_setCell_same _ b 2 _ _ kv' h1
  have h3 : ((((w.setCell ⟨b, 0, none⟩ pv').setCell ⟨b, 1, none⟩ ov').setCell ⟨b, 2, none⟩ kv').setCell ⟨b, 3, none⟩ (.int .i64 sl')).heap[b]? = some (.cells #[pv', ov', kv', .int .i64 sl', .int .i64 en, .int .i64 v.k, .int .i64 v.n, .string v.s, .int .i64 fp, fr] 33 (0, 0)) := heap_setCell_same _ b 3 _ _ (.int .i64 sl') h2
  have h4 : (((((w.setCell ⟨b, 0, none⟩ pv').setCell ⟨b, 1, none⟩ ov').setCell ⟨b, 2, none⟩ kv').setCell ⟨b, 3, none⟩ (.int .i64 sl')).setCell ⟨b, 4, none⟩ (.int .i64 en')).heap[b]? = some (.cells #[pv', ov', kv', .int .i64 sl', .int .i64 en', .int .i64 v.k, .int .i64 v.n, .string v.s, .int .i64 fp, fr] 33 (0, 0)) := heap_setCell_same _ b 4 _ _ (.int .i64 en') h3
  have h5 : ((((((w.setCell ⟨b, 0, none⟩ pv').setCell ⟨b, 1, none⟩ ov').setCell ⟨b, 2, none⟩ kv').setCell ⟨b, 3, none⟩ (.int .i64 sl')).setCell ⟨b, 4, none⟩ (.int .i64 en')).setCell ⟨b, 5, none⟩ (.int .i64 v'.k)).heap[b]? = some (.cells #[pv', ov', kv', .int .i64 sl', .int .i64 en', .int .i64 v'.k, .int .i64 v.n, .string v.s, .int .i64 fp, fr] 33 (0, 0)) := heap_setCell_same _ b 5 _ _ (.int .i64 v'.k) h4
  have h6 : (((((((w.setCell ⟨b, 0, none⟩ pv').setCell ⟨b, 1, none⟩ ov').setCell ⟨b, 2, none⟩ kv').setCell ⟨b, 3, none⟩ (.int .i64 sl')).setCell ⟨b, 4, none⟩ (.int .i64 en')).setCell ⟨b, 5, none⟩ (.int .i64 v'.k)).setCell ⟨b, 6, none⟩ (.int .i64 v'.n)).heap[b]? = some (.cells #[pv', ov', kv', .int .i64 sl', .int .i64 en', .int .i64 v'.k, .int .i64 v'.n, .string v.s, .int .i64 fp, fr] 33 (0, 0)) := heap_setCell_same _ b 6 _ _ (.int .i64 v'.n) h5
  have h7 : ((((((((w.setCell ⟨b, 0, none⟩ pv').setCell ⟨b, 1, none⟩ ov').setCell ⟨b, 2, none⟩ kv').setCell ⟨b, 3, none⟩ (.int .i64 sl')).setCell ⟨b, 4, none⟩ (.int .i64 en')).setCell ⟨b, 5, none⟩ (.int .i64 v'.k)).setCell ⟨b, 6, none⟩ (.int .i64 v'.n)).setCell ⟨b, 7, none⟩ (.string v'.s)).heap[b]? = some (.cells #[pv', ov', kv', .int .i64 sl', .int .i64 en', .int .i64 v'.k, .int .i64 v'.n, .string v'.s, .int .i64 fp, fr] 33 (0, 0)) := heap_setCell_same _ b 7 _ _ (.string v'.s) h6
  have h8 : (((((((((w.setCell ⟨b, 0, none⟩ pv').setCell ⟨b, 1, none⟩ ov').setCell ⟨b, 2, none⟩ kv').setCell ⟨b, 3, none⟩ (.int .i64 sl')).setCell ⟨b, 4, none⟩ (.int .i64 en')).setCell ⟨b, 5, none⟩ (.int .i64 v'.k)).setCell ⟨b, 6, none⟩ (.int .i64 v'.n)).setCell ⟨b, 7, none⟩ (.string v'.s)).setCell ⟨b, 8, none⟩ (.int .i64 fp')).heap[b]? = some (.cells #[pv', ov', kv', .int .i64 sl', .int .i64 en', .int .i64 v'.k, .int .i64 v'.n, .string v'.s, .int .i64 fp', fr] 33 (0, 0)) := heap_setCell_same _ b 8 _ _ (.int .i64 fp') h7
  have h9 : ((((((((((w.setCell ⟨b, 0, none⟩ pv').setCell ⟨b, 1, none⟩ ov').setCell ⟨b, 2, none⟩ kv').setCell ⟨b, 3, none⟩ (.int .i64 sl')).setCell ⟨b, 4, none⟩ (.int .i64 en')).setCell ⟨b, 5, none⟩ (.int .i64 v'.k)).setCell ⟨b, 6, none⟩ (.int .i64 v'.n)).setCell ⟨b, 7, none⟩ (.string v'.s)).setCell ⟨b, 8, none⟩ (.int .i64 fp')).setCell ⟨b, 9, none⟩ fr').heap[b]? = some (.cells #[pv', ov', kv', .int .i64 sl', .int .i64 en', .int .i64 v'.k, .int .i64 v'.n, .string v'.s, .int .i64 fp', fr'] 33 (0, 0)) := heap_setCell_same _ b 9 _ _ fr' h8
  exact ⟨h9, grown_trans (grown_trans (grown_trans (grown_trans (grown_trans (grown_trans (grown_trans (grown_trans (grown_trans (g _ _ _) (g _ _ _) (.inl rfl)) (g _ _ _) (.inl rfl)) (g _ _ _) (.inl rfl)) (g _ _ _) (.inl rfl)) (g _ _ _) (.inl rfl)) (g _ _ _) (.inl rfl)) (g _ _ _) (.inl rfl)) (g _ _ _) (.inl rfl)) (g _ _ _) (.inl rfl)⟩
set_option maxRecDepth 100000 in
set_option maxHeartbeats 1000000 in
theorem load_eb (h : Eb w b pv ov kv sl en v fp fr) : (loadVar 33 ⟨b, 0, none⟩).run Tryz.prog w = .ok (.agg #[pv, ov, kv, .int .i64 sl, .int .i64 en, .int .i64 v.k, .int .i64 v.n, .string v.s, .int .i64 fp, fr]) w := by
  obtain ⟨c0, c1, c2, c3, c4, c5, c6, c7, c8, c9⟩ := h.cs
  go_simp
theorem results_eb {fn : Func} {p u : Tmp} (hf : fn.results = #[.cell p 33, .tmp u]) (tmps : Array Value) (er : Value) (hp : tmps.getD p undef = .pointer (some ⟨b, 0, none⟩)) (hu : tmps.getD u undef = er) (hV : Eb w b pv ov kv sl en v fp fr) :
    (results fn tmps).run Tryz.prog w = .ok (.tuple #[.agg #[pv, ov, kv, .int .i64 sl, .int .i64 en, .int .i64 v.k, .int .i64 v.n, .string v.s, .int .i64 fp, fr], er]) w := by
  rw [results_cell_tmp hf, hp, hu]
  simp [asAddr, Result.andThen, load_eb hV]
end
/-- Effects as a value. -/
def EfR (w : World) (x : Value) (E : Ef) : Prop := ∃ pv ov kv rv, x = .agg #[pv, ov, kv, .int .i64 E.sl, .int .i64 E.en, .int .i64 E.v.k, .int .i64 E.v.n, .string E.v.s, .int .i64 E.pc, rv] ∧ Rw Wr.cells 7 w pv E.pu ∧ Rw V.cells 3 w ov E.ou ∧ Rw Sp.cells 7 w kv E.ki ∧ Rw V.cells 3 w rv E.rg
theorem EfR.keptN {w w' : World} {x : Value} {E : Ef} (h : EfR w x E) (hg : w.grownBy w' none) : EfR w' x E := by
  obtain ⟨pv, ov, kv, rv, e, a, b, c, d⟩ := h
  exact ⟨pv, ov, kv, rv, e, a.keptN hg, b.keptN hg, c.keptN hg, d.keptN hg⟩
def RunP (e : Ending) (w' : World) (E : Ef) (X : Int) : Prop := ∃ x, e = .returned (.tuple #[x, .int .i64 X]) ∧ EfR w' x E
theorem efR_none (w : World) (en : Int) : EfR w (.agg #[.slice none 0 0, .slice none 0 0, .slice none 0 0, .int .i64 0, .int .i64 en, .int .i64 0, .int .i64 0, .string ⟨#[]⟩, .int .i64 0, .slice none 0 0]) (.none en) :=
  ⟨_, _, _, _, rfl, Rw.nil _ _ _, Rw.nil _ _ _, Rw.nil _ _ _, Rw.nil _ _ _⟩

end Go.Proofs.YtpoahegccjgnjaaGreatDoor

namespace Go.Proofs.YtpoahegccjgnjaaGreatDoor
open Go.RowKit
set_option linter.unusedVariables false

set_option maxRecDepth 100000 in
set_option maxHeartbeats 1000000 in
theorem mul_one_six (w : World) : Calls Tryz.prog 56 #[.int .u64 1, .int .u64 6] w fun e w' => e = .returned (.tuple #[.int .u64 0, .int .u64 6]) ∧ w' = w := by
  go_enter Tryz.func56, Tryz.ntmps56
  go_wp2
  go_ret2
  exact ⟨rfl, rfl⟩
/-- A row of six values, the first j of them the number 0. -/
def rowR (j : Nat) : Array Value := (fcs V.cells (List.replicate j (nV 0) ++ List.replicate (6 - j) ⟨0, 0, ⟨#[]⟩⟩)).toArray
theorem run_copy_rowN {P : Program} (n : Nat) (w : World) (dT sT ty elem : TypeId) (g o dLen dCap : Nat) (a : Addr) (sLen sCap : Nat) (cur : Array Value) (t : TypeId) (cs : List Value)
    (hu : P.underlying dT = some (.slice elem)) (hs : (P.info? elem).map (·.size) = some n)
    (hg : w.heap[g]? = some (.cells cur t (0, 0))) (hn : cs.length = Nat.min sLen dLen * n)
    (hsrc : ∀ j v, cs[j]? = some v → w.cell? (a.add j) = some v) (hfit : o + cs.length ≤ cur.size) (h1 : ∀ v ∈ cs, v.oneCell' = true) :
    (Builtin.copy_ #[dT, sT] ty #[.slice (some ⟨g, o, none⟩) dLen dCap, .slice (some a) sLen sCap]).run P w =
      .ok (goInt (Nat.min sLen dLen)) (w.setRow g (cur.toList.take o ++ cs ++ cur.toList.drop (o + cs.length)).toArray) := by
  have hl := run_loadCells_list (P := P) w a cs hsrc
  have hst := run_storeCells_at P g o t cs 0 cur w hg (by simpa using hfit) h1
  cases hq : P.info? elem with
  | none => simp [hq] at hs
  | some i =>
    have hi : i.size = n := by simpa [hq] using hs
    simp [Builtin.copy_, run_underlying hu, Builtin.lenOf, Builtin.firstCells, sizeOf, typeInfo, hq, hi, ← hn, hl, hst]
theorem hstep_copy {P : Program} {w : World} {ops : Array Oper} {o : Oper} {a : Act} {K : Act → World → Prop} {Q : Exit → Act → World → Prop} {E : Prop} (d : Nat) (hd : o.dst = some d) (hgd : o.guard = none) (s x : Operand) (t tx ty : TypeId) (hty : o.type = ty)
    (ho : o.op = .call { callee := .builtin .copy, args := #[s, x], argTypes := #[t, tx] }) (v xv : Value) (hs : a.eval s = v) (hx : a.eval x = xv) {v' : Value} {w' : World}
    (hr : (Builtin.copy_ #[t, tx] ty #[v, xv]).run P w = .ok v' w') (h : K (a.put (some d) v') w') : if Region.wanted o (yielded ops a.tmps) = true then Oper.wp P o a w K Q else E := by
  subst hty
  rw [← hd] at h
  have hw : Region.wanted o (yielded ops a.tmps) = true := by simp [Region.wanted, hgd]
  rw [if_pos hw]
  unfold Oper.wp execOp
  simp only [ho, resolve, invoke, builtin, Sem.run_bind, Sem.run_pure, Result.andThen_ok, List.map_toArray, List.map_cons, List.map_nil, hs, hx, hr]
  exact h
theorem put_R (w : World) (g : Nat) (j : Nat) {cur : Array Value} (h : w.heap[g]? = some (.cells cur 31 (0, 0))) : (w.setRow g (rowR j)).heap[g]? = some (.cells (rowR j) 31 (0, 0)) ∧ w.grownBy (w.setRow g (rowR j)) (some g) :=
  ⟨setRow_heap w g cur _ _ _ h, ⟨rfl, rfl, rfl, by simp [World.setRow], fun k _ hk => setRow_other w g k _ (fun e => hk (by simp [e]))⟩⟩
theorem infoV4 : (Tryz.prog.info? 31).map (·.size) = some 3 := by kernel_rfl
theorem cells_R (w : World) (g j : Nat) (h : w.heap[g]? = some (.cells (rowR j) 31 (0, 0))) (i : Nat) (u : Value) (hu : (rowR j).toList[i]? = some u) : w.cell? ((⟨g, 0, none⟩ : Addr).add i) = some u := by
  rw [addr_plainI, Nat.zero_add, cell_of_row _ _ _ _ _ _ h]
  simpa using hu
/-- The first k of a row's j values are laid behind them. -/
theorem copy_R (j k : Nat) (hj : j ≤ 6) (hk : (rowR (j + k)).toList = (rowR j).toList.take (j * 3) ++ (rowR j).toList.take (k * 3) ++ (rowR j).toList.drop (j * 3 + ((rowR j).toList.take (k * 3)).length)) (hm : ((rowR j).toList.take (k * 3)).length = Nat.min j (6 - j) * 3) (w : World) (g : Nat) (h : w.heap[g]? = some (.cells (rowR j) 31 (0, 0))) :
    (Builtin.copy_ #[23, 23] 3 #[.slice (some ⟨g, j * 3, none⟩) (6 - j) (6 - j), .slice (some ⟨g, 0, none⟩) j 6]).run Tryz.prog w = .ok (goInt (Nat.min j (6 - j))) (w.setRow g (rowR (j + k))) := by
  have := run_copy_rowN (P := Tryz.prog) 3 w 23 23 3 31 g (j * 3) (6 - j) (6 - j) ⟨g, 0, none⟩ j 6 (rowR j) 31 ((rowR j).toList.take (k * 3)) Tryz.underlying23 infoV4 h hm (fun i u hu => cells_R w g j h i u (by
    rw [List.getElem?_take] at hu
    split at hu
    · exact hu
    · cases hu)) (by
    have e18 : (rowR j).size = 18 := by
      unfold rowR
      rw [List.size_toArray, fcs_len clV, List.length_append, List.length_replicate, List.length_replicate]
      omega
    have hmin : Nat.min j (6 - j) ≤ 6 - j := Nat.min_le_right j (6 - j)
    rw [hm, e18]
    omega) (fun v hv => by
    have := List.mem_of_mem_take hv
    unfold rowR at this
    exact fcs_one clV _ v (by simpa using this))
  rw [this, ← hk]
set_option maxRecDepth 100000 in
set_option maxHeartbeats 1000000 in
theorem m_repeat (w : World) (p : Nat) (hV : Rw V.cells 3 w (.slice (some ⟨p, 0, none⟩) 1 1) [nV 0]) :
    Calls Tryz.prog 21 #[.slice (some ⟨p, 0, none⟩) 1 1, .int .i64 6] w fun e w' => e = .returned (.slice (some ⟨w.heap.size, 0, none⟩) 6 6) ∧ w'.heap[w.heap.size]? = some (.cells (rowR 6) 31 (0, 0)) ∧ w.grownBy w' none := by
  obtain ⟨i0, hi, hz0, hz1, hz2⟩ := info_parts infoV3
  have hmk : (Instr.makeSlice 23 (.int .i64 6) (.int .i64 6)).run Tryz.prog w = .ok (.slice (some ⟨w.heap.size, 0, none⟩) 6 6) (w.alloc (.cells (rowR 0) 31)) := by
    have h := run_make (P := Tryz.prog) w 23 31 i0 _ Tryz.underlying23 hi hz0 .i64 .i64 6 6 (by decide) (by decide) (by rw [hz2]; decide) (by decide)
    have e : madeCells (Value.agg #[.int .i64 0, .int .i64 0, .string ByteArray.empty]).cells (Int.toNat 6 * 3) = rowR 0 := by kernel_rfl
    rw [h, hz1, e]
    rfl
  have hga := World.grownBy_alloc w (.cells (rowR 0) 31) none
  have hg0 : (w.alloc (.cells (rowR 0) 31)).heap[w.heap.size]? = some (.cells (rowR 0) 31 (0, 0)) := heap_alloc_new w _
  have hcp : (Builtin.copy_ #[23, 23] 3 #[.slice (some ⟨w.heap.size, 0, none⟩) 6 6, .slice (some ⟨p, 0, none⟩) 1 1]).run Tryz.prog (w.alloc (.cells (rowR 0) 31)) = .ok (.int .i64 1) ((w.alloc (.cells (rowR 0) 31)).setRow w.heap.size (rowR 1)) := by
    obtain ⟨a, c, e, _, _, hc⟩ := hV.keptN hga
    have h := run_copy_rowN (P := Tryz.prog) 3 _ 23 23 3 31 w.heap.size 0 6 6 ⟨p, 0, none⟩ 1 1 (rowR 0) 31 (V.cells (nV 0)) Tryz.underlying23 infoV4 hg0 rfl (fun i u hu => by
      obtain ⟨b, off, e2, _, hcc⟩ := hc 0 (by simp)
      rw [e2] at e
      have e3 := (Value.slice.inj e).1
      have : b = p ∧ off = 0 := by
        have := Option.some.inj e3
        exact ⟨(congrArg Addr.block this).symm, (congrArg Addr.off this).symm⟩
      obtain ⟨rfl, rfl⟩ := this
      rw [addr_plainI]
      have := hcc i u hu
      rw [show 0 + 0 * 3 + i = 0 + i by omega] at this
      exact this) (by decide) (fun v hv => clV.one _ v hv)
    rw [h]
    rfl
  have h1 := put_R _ w.heap.size 1 hg0
  have HB1 := hide h1.1
  have HG1 := hide (grown_new hga h1.2 (fun j e => by cases e; exact Nat.le_refl _))
  clear hi hz0 hz1 hz2 h1 hg0 hga
  go_enter Tryz.func21, Tryz.ntmps21
  go_wp2_with (first
    | (go_at_call 56; refine (mul_one_six _).mono ?_; rintro e w1 ⟨rfl, hw1⟩; have hw1 := hw1.symm; subst hw1)
    | (at_builtin; refine wpList_copy_at _ rfl (.tmp 31) (.tmp 32) 23 23 rfl _ _ rfl rfl hcp ?_))
  generalize (w.alloc (.cells (rowR 0) 31)).setRow w.heap.size (rowR 1) = W1 at *
  go_loopw [8] (fun t wr => ∃ j : Nat, (j = 1 ∨ j = 2 ∨ j = 4 ∨ j = 6) ∧ t = .int .i64 (j : Int) ∧ wr.heap[w.heap.size]? = some (.cells (rowR j) 31 (0, 0)) ∧ w.grownBy wr none) (fun t _ => 6 - (intOf t).toNat)
  case atStart => exact ⟨1, .inl rfl, rfl, HB1.out, HG1.out⟩
  case round =>
    obtain ⟨j, hj, rfl, h1, hg⟩ := hrel
    rcases hj with rfl | rfl | rfl | rfl
    · rw [show ((1 : Nat) : Int) = 1 from rfl]
      go_upto_region 9 with fail
      refine wp_region_held_drew (S := fun _ => True) (by kernel_rfl) (trivial) (fun hHeld => ?_)
      refine take_at (i := 0) (d := 38) (v := ?_) rfl rfl (by kernel_rfl) (by kernel_rfl) (by kernel_rfl) (fun _ _ _ h => h) (Or.inl ⟨by rfl, ?_⟩) (by assumption) ?_
      rotate_left
      · intro W hSW
        try dsimp only at hSW
        go_simp
        try with_reducible rfl
      try simp only [Act.put, List.setIfInBounds_toArray, List.set_cons_zero, List.set_cons_succ]
      refine take_at (i := 1) (d := 39) (v := ?_) rfl rfl (by kernel_rfl) (by kernel_rfl) (by kernel_rfl) (fun _ _ _ h => h) (Or.inl ⟨by rfl, ?_⟩) (by assumption) ?_
      rotate_left
      · intro W hSW
        try dsimp only at hSW
        go_simp
        try with_reducible rfl
      try simp only [Act.put, List.setIfInBounds_toArray, List.set_cons_zero, List.set_cons_succ]
      refine take_at (i := 2) (d := 40) (v := ?_) rfl rfl (by kernel_rfl) (by kernel_rfl) (by kernel_rfl) (fun _ _ _ h => h) (Or.inl ⟨by rfl, ?_⟩) (by assumption) ?_
      rotate_left
      · intro W hSW
        try dsimp only at hSW
        go_simp
        try with_reducible rfl
      try simp only [Act.put, List.setIfInBounds_toArray, List.set_cons_zero, List.set_cons_succ]
      refine take_at (i := 3) (d := 41) (v := ?_) rfl rfl (by kernel_rfl) (by kernel_rfl) (by kernel_rfl) (fun _ _ _ h => h) (Or.inl ⟨by rfl, ?_⟩) (by assumption) ?_
      rotate_left
      · intro W hSW
        try dsimp only at hSW
        go_simp
        try with_reducible rfl
      try simp only [Act.put, List.setIfInBounds_toArray, List.set_cons_zero, List.set_cons_succ]
      refine take_at (i := 4) (d := 42) (v := ?_) rfl rfl (by kernel_rfl) (by kernel_rfl) (by kernel_rfl) (fun _ _ _ h => h) (Or.inl ⟨by rfl, ?_⟩) (by assumption) ?_
      rotate_left
      · intro W hSW
        try dsimp only at hSW
        go_simp
        try with_reducible rfl
      try simp only [Act.put, List.setIfInBounds_toArray, List.set_cons_zero, List.set_cons_succ]
      refine take_at (i := 5) (d := 43) (v := ?_) rfl rfl (by kernel_rfl) (by kernel_rfl) (by kernel_rfl) (fun _ _ _ h => h) (Or.inl ⟨by rfl, ?_⟩) (by assumption) ?_
      rotate_left
      · intro W hSW
        try dsimp only at hSW
        go_simp
        try with_reducible rfl
      try simp only [Act.put, List.setIfInBounds_toArray, List.set_cons_zero, List.set_cons_succ]
      refine take_at (i := 6) (d := 44) (v := ?_) rfl rfl (by kernel_rfl) (by kernel_rfl) (by kernel_rfl) (fun _ _ _ h => h) (Or.inl ⟨by rfl, ?_⟩) (by assumption) ?_
      rotate_left
      · intro W hSW
        try dsimp only at hSW
        go_simp
        try with_reducible rfl
      try simp only [Act.put, List.setIfInBounds_toArray, List.set_cons_zero, List.set_cons_succ]
      refine wpAnyH_ready (rs := [7]) (by kernel_rfl) (by simp) ?_
      refine AllReadyH.cons rfl (fun K hK => ?_) ?_
      · refine hstep_copy 45 (by rfl) (by rfl) (.tmp 41) (.tmp 44) 23 23 3 (by rfl) (by rfl) _ _ (by rfl) (by rfl) (copy_R 1 1 (by omega) (by rfl) (by rfl) (World.drew wr) w.heap.size h1) ?_
        refine hK.out _ _ (trivial) (fun hHeld => ?_)
        clear hK K
        try simp only [Act.put, List.setIfInBounds_toArray, List.set_cons_zero, List.set_cons_succ]
        refine take_at (i := 8) (d := 46) (v := ?_) rfl rfl (by kernel_rfl) (by kernel_rfl) (by kernel_rfl) (fun _ _ _ h => h) (Or.inl ⟨by rfl, ?_⟩) (by assumption) ?_
        rotate_left
        · intro W hSW
          try dsimp only at hSW
          go_simp
          try with_reducible rfl
        try simp only [Act.put, List.setIfInBounds_toArray, List.set_cons_zero, List.set_cons_succ]
        refine take_at (i := 9) (d := 8) (v := ?_) rfl rfl (by kernel_rfl) (by kernel_rfl) (by kernel_rfl) (fun _ _ _ h => h) (Or.inl ⟨by rfl, ?_⟩) (by assumption) ?_
        rotate_left
        · intro W hSW
          try dsimp only at hSW
          go_simp
          try with_reducible rfl
        try simp only [Act.put, List.setIfInBounds_toArray, List.set_cons_zero, List.set_cons_succ]
        refine wpAnyH_done (by kernel_rfl) ?_ _
        have hB := put_R (World.drew wr) w.heap.size 2 h1
        generalize (World.drew wr).setRow w.heap.size (rowR 2) = W9 at *
        go_wp2_with fail
        go_roundw
        case rel => exact ⟨2, by omega, rfl, hB.1, grown_new (grown_up hg (grown_dr wr)) hB.2 (fun j e => by cases e; exact Nat.le_refl _)⟩
        case measure => simp only [intOf]; decide
      exact AllReadyH.nil
    · rw [show ((2 : Nat) : Int) = 2 from rfl]
      go_upto_region 9 with fail
      refine wp_region_held_drew (S := fun _ => True) (by kernel_rfl) (trivial) (fun hHeld => ?_)
      refine take_at (i := 0) (d := 38) (v := ?_) rfl rfl (by kernel_rfl) (by kernel_rfl) (by kernel_rfl) (fun _ _ _ h => h) (Or.inl ⟨by rfl, ?_⟩) (by assumption) ?_
      rotate_left
      · intro W hSW
        try dsimp only at hSW
        go_simp
        try with_reducible rfl
      try simp only [Act.put, List.setIfInBounds_toArray, List.set_cons_zero, List.set_cons_succ]
      refine take_at (i := 1) (d := 39) (v := ?_) rfl rfl (by kernel_rfl) (by kernel_rfl) (by kernel_rfl) (fun _ _ _ h => h) (Or.inl ⟨by rfl, ?_⟩) (by assumption) ?_
      rotate_left
      · intro W hSW
        try dsimp only at hSW
        go_simp
        try with_reducible rfl
      try simp only [Act.put, List.setIfInBounds_toArray, List.set_cons_zero, List.set_cons_succ]
      refine take_at (i := 2) (d := 40) (v := ?_) rfl rfl (by kernel_rfl) (by kernel_rfl) (by kernel_rfl) (fun _ _ _ h => h) (Or.inl ⟨by rfl, ?_⟩) (by assumption) ?_
      rotate_left
      · intro W hSW
        try dsimp only at hSW
        go_simp
        try with_reducible rfl
      try simp only [Act.put, List.setIfInBounds_toArray, List.set_cons_zero, List.set_cons_succ]
      refine take_at (i := 3) (d := 41) (v := ?_) rfl rfl (by kernel_rfl) (by kernel_rfl) (by kernel_rfl) (fun _ _ _ h => h) (Or.inl ⟨by rfl, ?_⟩) (by assumption) ?_
      rotate_left
      · intro W hSW
        try dsimp only at hSW
        go_simp
        try with_reducible rfl
      try simp only [Act.put, List.setIfInBounds_toArray, List.set_cons_zero, List.set_cons_succ]
      refine take_at (i := 4) (d := 42) (v := ?_) rfl rfl (by kernel_rfl) (by kernel_rfl) (by kernel_rfl) (fun _ _ _ h => h) (Or.inl ⟨by rfl, ?_⟩) (by assumption) ?_
      rotate_left
      · intro W hSW
        try dsimp only at hSW
        go_simp
        try with_reducible rfl
      try simp only [Act.put, List.setIfInBounds_toArray, List.set_cons_zero, List.set_cons_succ]
      refine take_at (i := 5) (d := 43) (v := ?_) rfl rfl (by kernel_rfl) (by kernel_rfl) (by kernel_rfl) (fun _ _ _ h => h) (Or.inl ⟨by rfl, ?_⟩) (by assumption) ?_
      rotate_left
      · intro W hSW
        try dsimp only at hSW
        go_simp
        try with_reducible rfl
      try simp only [Act.put, List.setIfInBounds_toArray, List.set_cons_zero, List.set_cons_succ]
      refine take_at (i := 6) (d := 44) (v := ?_) rfl rfl (by kernel_rfl) (by kernel_rfl) (by kernel_rfl) (fun _ _ _ h => h) (Or.inl ⟨by rfl, ?_⟩) (by assumption) ?_
      rotate_left
      · intro W hSW
        try dsimp only at hSW
        go_simp
        try with_reducible rfl
      try simp only [Act.put, List.setIfInBounds_toArray, List.set_cons_zero, List.set_cons_succ]
      refine wpAnyH_ready (rs := [7]) (by kernel_rfl) (by simp) ?_
      refine AllReadyH.cons rfl (fun K hK => ?_) ?_
      · refine hstep_copy 45 (by rfl) (by rfl) (.tmp 41) (.tmp 44) 23 23 3 (by rfl) (by rfl) _ _ (by rfl) (by rfl) (copy_R 2 2 (by omega) (by rfl) (by rfl) (World.drew wr) w.heap.size h1) ?_
        refine hK.out _ _ (trivial) (fun hHeld => ?_)
        clear hK K
        try simp only [Act.put, List.setIfInBounds_toArray, List.set_cons_zero, List.set_cons_succ]
        refine take_at (i := 8) (d := 46) (v := ?_) rfl rfl (by kernel_rfl) (by kernel_rfl) (by kernel_rfl) (fun _ _ _ h => h) (Or.inl ⟨by rfl, ?_⟩) (by assumption) ?_
        rotate_left
        · intro W hSW
          try dsimp only at hSW
          go_simp
          try with_reducible rfl
        try simp only [Act.put, List.setIfInBounds_toArray, List.set_cons_zero, List.set_cons_succ]
        refine take_at (i := 9) (d := 8) (v := ?_) rfl rfl (by kernel_rfl) (by kernel_rfl) (by kernel_rfl) (fun _ _ _ h => h) (Or.inl ⟨by rfl, ?_⟩) (by assumption) ?_
        rotate_left
        · intro W hSW
          try dsimp only at hSW
          go_simp
          try with_reducible rfl
        try simp only [Act.put, List.setIfInBounds_toArray, List.set_cons_zero, List.set_cons_succ]
        refine wpAnyH_done (by kernel_rfl) ?_ _
        have hB := put_R (World.drew wr) w.heap.size 4 h1
        generalize (World.drew wr).setRow w.heap.size (rowR 4) = W9 at *
        go_wp2_with fail
        go_roundw
        case rel => exact ⟨4, by omega, rfl, hB.1, grown_new (grown_up hg (grown_dr wr)) hB.2 (fun j e => by cases e; exact Nat.le_refl _)⟩
        case measure => simp only [intOf]; decide
      exact AllReadyH.nil
    · rw [show ((4 : Nat) : Int) = 4 from rfl]
      go_upto_region 9 with fail
      refine wp_region_held_drew (S := fun _ => True) (by kernel_rfl) (trivial) (fun hHeld => ?_)
      refine take_at (i := 0) (d := 38) (v := ?_) rfl rfl (by kernel_rfl) (by kernel_rfl) (by kernel_rfl) (fun _ _ _ h => h) (Or.inl ⟨by rfl, ?_⟩) (by assumption) ?_
      rotate_left
      · intro W hSW
        try dsimp only at hSW
        go_simp
        try with_reducible rfl
      try simp only [Act.put, List.setIfInBounds_toArray, List.set_cons_zero, List.set_cons_succ]
      refine take_at (i := 1) (d := 39) (v := ?_) rfl rfl (by kernel_rfl) (by kernel_rfl) (by kernel_rfl) (fun _ _ _ h => h) (Or.inl ⟨by rfl, ?_⟩) (by assumption) ?_
      rotate_left
      · intro W hSW
        try dsimp only at hSW
        go_simp
        try with_reducible rfl
      try simp only [Act.put, List.setIfInBounds_toArray, List.set_cons_zero, List.set_cons_succ]
      refine take_at (i := 2) (d := 40) (v := ?_) rfl rfl (by kernel_rfl) (by kernel_rfl) (by kernel_rfl) (fun _ _ _ h => h) (Or.inl ⟨by rfl, ?_⟩) (by assumption) ?_
      rotate_left
      · intro W hSW
        try dsimp only at hSW
        go_simp
        try with_reducible rfl
      try simp only [Act.put, List.setIfInBounds_toArray, List.set_cons_zero, List.set_cons_succ]
      refine take_at (i := 3) (d := 41) (v := ?_) rfl rfl (by kernel_rfl) (by kernel_rfl) (by kernel_rfl) (fun _ _ _ h => h) (Or.inl ⟨by rfl, ?_⟩) (by assumption) ?_
      rotate_left
      · intro W hSW
        try dsimp only at hSW
        go_simp
        try with_reducible rfl
      try simp only [Act.put, List.setIfInBounds_toArray, List.set_cons_zero, List.set_cons_succ]
      refine take_at (i := 4) (d := 42) (v := ?_) rfl rfl (by kernel_rfl) (by kernel_rfl) (by kernel_rfl) (fun _ _ _ h => h) (Or.inl ⟨by rfl, ?_⟩) (by assumption) ?_
      rotate_left
      · intro W hSW
        try dsimp only at hSW
        go_simp
        try with_reducible rfl
      try simp only [Act.put, List.setIfInBounds_toArray, List.set_cons_zero, List.set_cons_succ]
      refine take_at (i := 5) (d := 43) (v := ?_) rfl rfl (by kernel_rfl) (by kernel_rfl) (by kernel_rfl) (fun _ _ _ h => h) (Or.inl ⟨by rfl, ?_⟩) (by assumption) ?_
      rotate_left
      · intro W hSW
        try dsimp only at hSW
        go_simp
        try with_reducible rfl
      try simp only [Act.put, List.setIfInBounds_toArray, List.set_cons_zero, List.set_cons_succ]
      refine take_at (i := 6) (d := 44) (v := ?_) rfl rfl (by kernel_rfl) (by kernel_rfl) (by kernel_rfl) (fun _ _ _ h => h) (Or.inl ⟨by rfl, ?_⟩) (by assumption) ?_
      rotate_left
      · intro W hSW
        try dsimp only at hSW
        go_simp
        try with_reducible rfl
      try simp only [Act.put, List.setIfInBounds_toArray, List.set_cons_zero, List.set_cons_succ]
      refine wpAnyH_ready (rs := [7]) (by kernel_rfl) (by simp) ?_
      refine AllReadyH.cons rfl (fun K hK => ?_) ?_
      · refine hstep_copy 45 (by rfl) (by rfl) (.tmp 41) (.tmp 44) 23 23 3 (by rfl) (by rfl) _ _ (by rfl) (by rfl) (copy_R 4 2 (by omega) (by rfl) (by rfl) (World.drew wr) w.heap.size h1) ?_
        refine hK.out _ _ (trivial) (fun hHeld => ?_)
        clear hK K
        try simp only [Act.put, List.setIfInBounds_toArray, List.set_cons_zero, List.set_cons_succ]
        refine take_at (i := 8) (d := 46) (v := ?_) rfl rfl (by kernel_rfl) (by kernel_rfl) (by kernel_rfl) (fun _ _ _ h => h) (Or.inl ⟨by rfl, ?_⟩) (by assumption) ?_
        rotate_left
        · intro W hSW
          try dsimp only at hSW
          go_simp
          try with_reducible rfl
        try simp only [Act.put, List.setIfInBounds_toArray, List.set_cons_zero, List.set_cons_succ]
        refine take_at (i := 9) (d := 8) (v := ?_) rfl rfl (by kernel_rfl) (by kernel_rfl) (by kernel_rfl) (fun _ _ _ h => h) (Or.inl ⟨by rfl, ?_⟩) (by assumption) ?_
        rotate_left
        · intro W hSW
          try dsimp only at hSW
          go_simp
          try with_reducible rfl
        try simp only [Act.put, List.setIfInBounds_toArray, List.set_cons_zero, List.set_cons_succ]
        refine wpAnyH_done (by kernel_rfl) ?_ _
        have hB := put_R (World.drew wr) w.heap.size 6 h1
        generalize (World.drew wr).setRow w.heap.size (rowR 6) = W9 at *
        go_wp2_with fail
        go_roundw
        case rel => exact ⟨6, by omega, rfl, hB.1, grown_new (grown_up hg (grown_dr wr)) hB.2 (fun j e => by cases e; exact Nat.le_refl _)⟩
        case measure => simp only [intOf]; decide
      exact AllReadyH.nil
    · rw [show ((6 : Nat) : Int) = 6 from rfl]
      go_wp2_with fail
      go_ret
      exact ⟨rfl, h1, hg⟩
/-- A frame as a value. -/
def FirstP (a : V) (e : Ending) (w' : World) : Prop := ∃ g, e = .returned (.agg #[.int .i64 0, .slice (some ⟨g, 0, none⟩) 6 6]) ∧ Rw V.cells 3 w' (.slice (some ⟨g, 0, none⟩) 6 6) (rgF a)
theorem rowR6 (w : World) (B g : Nat) (hB : B ≤ g) (h : w.heap[g]? = some (.cells (rowR 6) 31 (0, 0))) : OwR V.cells 3 31 w B (.slice (some ⟨g, 0, none⟩) 6 6) (List.replicate 6 (nV 0)) :=
  ⟨by rw [fcs_len clV], .inr ⟨g, 6, rowR 6, rfl, hB, h, Nat.le_refl _, by decide, by kernel_rfl, by rfl⟩⟩
theorem load_fr {w : World} {b : Nat} {pc : Int} {rv : Value} (c0 : w.cell? ⟨b, 0, none⟩ = some (.int .i64 pc)) (c1 : w.cell? ⟨b, 1, none⟩ = some rv) : (loadVar 25 ⟨b, 0, none⟩).run Tryz.prog w = .ok (.agg #[.int .i64 pc, rv]) w := by
  go_simp
theorem results_fr {fn : Func} {p : Tmp} (h : fn.results = #[.cell p 25]) (tmps : Array Value) (b : Nat) (W : World) (pc : Int) (rv : Value) (hp : tmps.getD p undef = .pointer (some ⟨b, 0, none⟩)) (c0 : W.cell? ⟨b, 0, none⟩ = some (.int .i64 pc)) (c1 : W.cell? ⟨b, 1, none⟩ = some rv) :
    (results fn tmps).run Tryz.prog W = .ok (.agg #[.int .i64 pc, rv]) W := by
  rw [results_one h, hp]
  simp [asAddr, Result.andThen, load_fr c0 c1]
set_option maxRecDepth 100000 in
set_option maxHeartbeats 1000000 in
theorem m_first (x : V) (w : World) : Calls Tryz.prog 11 #[x.val] w fun e w' => FirstP x e w' ∧ w.grownBy w' none := by
  have hA1 := World.grownBy_alloc w (.cells #[.int .i64 x.k, .int .i64 x.n, .string x.s] 31) none
  have hX := Vb.new w x
  have hs1 : (w.alloc (.cells #[.int .i64 x.k, .int .i64 x.n, .string x.s] 31)).heap.size = w.heap.size + 1 := World.size_alloc _ _
  have hA2 := World.grownBy_alloc (w.alloc (.cells #[.int .i64 x.k, .int .i64 x.n, .string x.s] 31)) (.cells #[.int .i64 0, .slice none 0 0] 25) none
  have hF := heap_alloc_new (w.alloc (.cells #[.int .i64 x.k, .int .i64 x.n, .string x.s] 31)) (.cells #[.int .i64 0, .slice none 0 0] 25)
  rw [hs1] at hF
  have hX2 := hX.kept hA2 (by simp)
  have hg2 := grown_up hA1 hA2
  unfold V.val
  go_enter Tryz.func11, Tryz.ntmps11
  go_upto_region 1 with fail
  clear hA1 hA2 hX hs1
  generalize (w.alloc (.cells #[.int .i64 x.k, .int .i64 x.n, .string x.s] 31)).alloc (.cells #[.int .i64 0, .slice none 0 0] 25) = W2 at *
  go_upto_region 2 with (first
    | (go_at_call 22; refine ((m_num _).out _).mono ?_; rintro e w3 ⟨rfl, hg3⟩; have hA4 := World.grownBy_alloc w3 (.cells #[.int .i64 1, .int .i64 0, .string ⟨#[]⟩] 31) none; have hR4 : Rw V.cells 3 (w3.alloc (.cells #[.int .i64 1, .int .i64 0, .string ⟨#[]⟩] 31)) (.slice (some ⟨w3.heap.size, 0, none⟩) 1 1) [nV 0] := rw_one (nV 0) (heap_alloc_new w3 (.cells #[.int .i64 1, .int .i64 0, .string ⟨#[]⟩] 31)))
    | (go_at_call 21; refine (m_repeat _ _ hR4).mono ?_; rintro e w5 ⟨rfl, h5, hg5⟩))
  have hg25 := grown_up (grown_up hg3 hA4) hg5
  have hle : W2.heap.size ≤ (w3.alloc (.cells #[.int .i64 1, .int .i64 0, .string ⟨#[]⟩] 31)).heap.size := (grown_up hg3 hA4).size
  clear hR4 hA4 hg3 hg5
  obtain ⟨g, hgg⟩ : ∃ g, w3.heap.size + 1 = g := ⟨_, rfl⟩
  rw [World.size_alloc, hgg] at h5 hle
  rw [hgg]
  have hX5 := hX2.kept hg25 (by simp)
  have hF5 : w5.heap[w.heap.size + 1]? = _ := (hg25.block _ (Array.getElem?_eq_some_iff.1 hF).1 (by simp)).trans hF
  have hFl := (Array.getElem?_eq_some_iff.1 hF).1
  have v0 := hX5.c0
  have v1 := hX5.c1
  have v2 := hX5.c2
  have hO := rowR6 w5 W2.heap.size g hle h5
  have hP := OwR.put clV hO 0 (by decide) x
  have e0 : w5.cell? ⟨g, 0, none⟩ = some (.int .i64 1) := by rw [cell_of_row _ _ _ _ _ _ h5]; rfl
  have e1 : w5.cell? ⟨g, 1, none⟩ = some (.int .i64 0) := by rw [cell_of_row _ _ _ _ _ _ h5]; rfl
  have e2 : w5.cell? ⟨g, 2, none⟩ = some (.string ⟨#[]⟩) := by rw [cell_of_row _ _ _ _ _ _ h5]; rfl
  have ef : ∀ j, w5.frozen? ⟨g, j, none⟩ = false := fun j => hO.fz rfl j
  have hP1 : OwR V.cells 3 31 (((w5.setCell ⟨g, 0, none⟩ (.int .i64 x.k)).setCell ⟨g, 1, none⟩ (.int .i64 x.n)).setCell ⟨g, 2, none⟩ (.string x.s)) W2.heap.size (.slice (some ⟨g, 0, none⟩) 6 6) (rgF x) := hP.1
  have hP2 : w5.grownBy (((w5.setCell ⟨g, 0, none⟩ (.int .i64 x.k)).setCell ⟨g, 1, none⟩ (.int .i64 x.n)).setCell ⟨g, 2, none⟩ (.string x.s)) (some g) := hP.2
  have hF6 : (((w5.setCell ⟨g, 0, none⟩ (.int .i64 x.k)).setCell ⟨g, 1, none⟩ (.int .i64 x.n)).setCell ⟨g, 2, none⟩ (.string x.s)).heap[w.heap.size + 1]? = _ := (hP2.block _ (Array.getElem?_eq_some_iff.1 hF5).1 (by simp; omega)).trans hF5
  clear hP h5 hO
  go_upto_region 3 with fail
  generalize ((w5.setCell ⟨g, 0, none⟩ (.int .i64 x.k)).setCell ⟨g, 1, none⟩ (.int .i64 x.n)).setCell ⟨g, 2, none⟩ (.string x.s) = W6 at *
  have x0 : W6.cell? ⟨w.heap.size + 1, 0, none⟩ = some (.int .i64 0) := by rw [cell_of_row _ _ 0 _ _ _ hF6]; rfl
  have x1 : W6.cell? ⟨w.heap.size + 1, 1, none⟩ = some (.slice none 0 0) := by rw [cell_of_row _ _ 1 _ _ _ hF6]; rfl
  have xf : ∀ j, W6.frozen? ⟨w.heap.size + 1, j, none⟩ = false := by
    intro j
    unfold World.frozen?
    rw [show W6.heap[(⟨w.heap.size + 1, j, none⟩ : Addr).block]? = _ from hF6]
    simp
  have hF7 := heap_setCell_same W6 (w.heap.size + 1) 0 _ _ (.int .i64 0) hF6
  have hF8 := heap_setCell_same _ (w.heap.size + 1) 1 _ _ (.slice (some ⟨g, 0, none⟩) 6 6) hF7
  have hG8 : W6.grownBy ((W6.setCell ⟨w.heap.size + 1, 0, none⟩ (.int .i64 0)).setCell ⟨w.heap.size + 1, 1, none⟩ (.slice (some ⟨g, 0, none⟩) 6 6)) (some (w.heap.size + 1)) := by
    have gg : ∀ (W : World) (o : Nat) (u : Value), W.grownBy (W.setCell ⟨w.heap.size + 1, o, none⟩ u) (some (w.heap.size + 1)) := fun W o u => ⟨rfl, rfl, rfl, by simp, fun k _ hk => heap_setCell_other W ⟨w.heap.size + 1, o, none⟩ k u (fun e => hk (by simp [e]))⟩
    exact grown_trans (gg _ _ _) (gg _ _ _) (.inl rfl)
  go_wp2
  refine bodyPost_ret (results_fr rfl _ (w.heap.size + 1) _ 0 (.slice (some ⟨g, 0, none⟩) 6 6) rfl (by rw [cell_of_row _ _ _ _ _ _ hF8]; rfl) (by rw [cell_of_row _ _ _ _ _ _ hF8]; rfl)) rfl ?_
  exact ⟨⟨g, rfl, (OwR.kept hP1 hG8 (.inr (by simp [Value.ownBlock]; omega))).rw clV⟩, grown_new (grown_new (grown_up hg2 hg25) hP2 (fun j e => by cases e; have := hg2.size; omega)) hG8 (fun j e => by cases e; omega)⟩

end Go.Proofs.YtpoahegccjgnjaaGreatDoor
