/- Laws for every program, and some contracts over the turned one: what has turned from one world to another (Kp), slices that came in (Sl) and slices that the call owns (Ow), a sector's bytes, a map with numbers for keys, factotumref04's Whole and SameInts. Conditions: those that each theorem states. -/
import Derived.Test.YtgfijbbibafdfaaGreatChecked
import Derived.Test.YtgfijbbibafdfaaGreatBytes
import Derived.Deep.MidRow
import Derived.Maps.RangeRun
import Derived.Maps.RangeWalk
import Derived.ChangeKeysEq
import Derived.Lib.BufferWrite
import Derived.Deep.WholeRow
import Derived.Maps.OwnOps
import Derived.WalkLawsBesides
import Derived.BigQuiet
import Derived.Deep.QuietTactic
import Derived.Deep.CutRange
import Derived.Deep.RegionWith
import Derived.Deep.RegionHeldLaw
import Derived.Carry
import Derived.Laws.MakeOwn
namespace Go.Proofs.YtgfijbbibafdfaaGreat
open Go Go.RowKit
open Go.ChangeMaps (setBlock)
set_option linter.unusedVariables false
/-- From w to w' nothing has turned but the blocks of S; new blocks may be there. -/
structure Kp (S : Nat → Prop) (w w' : World) : Prop where
  os : w'.os = w.os
  tape : w'.tape = w.tape
  output : w'.output = w.output
  size : w.heap.size ≤ w'.heap.size
  block : ∀ k, k < w.heap.size → ¬ S k → w'.heap[k]? = w.heap[k]?
/-- No block. -/
def none' : Nat → Prop := fun _ => False
theorem Kp.refl (S : Nat → Prop) (w : World) : Kp S w w := ⟨rfl, rfl, rfl, Nat.le_refl _, fun _ _ _ => rfl⟩
theorem Kp.trans {S S' S'' : Nat → Prop} {w w1 w2 : World} (h : Kp S w w1) (h' : Kp S' w1 w2) (h1 : ∀ k, k < w.heap.size → S k → S'' k) (h2 : ∀ k, k < w.heap.size → S' k → S'' k) : Kp S'' w w2 :=
  ⟨h'.os.trans h.os, h'.tape.trans h.tape, h'.output.trans h.output, Nat.le_trans h.size h'.size, fun k hk hn => by
    rw [h'.block k (Nat.lt_of_lt_of_le hk h.size) (fun hs => hn (h2 k hk hs)), h.block k hk (fun hs => hn (h1 k hk hs))]⟩
theorem Kp.then {S : Nat → Prop} {w w1 w2 : World} (h : Kp S w w1) (h' : Kp S w1 w2) : Kp S w w2 := h.trans h' (fun _ _ h => h) (fun _ _ h => h)
theorem Kp.thenN {S : Nat → Prop} {w w1 w2 : World} (h : Kp S w w1) (h' : Kp none' w1 w2) : Kp S w w2 := h.trans h' (fun _ _ h => h) (fun _ _ h => h.elim)
theorem Kp.nThen {S : Nat → Prop} {w w1 w2 : World} (h : Kp none' w w1) (h' : Kp S w1 w2) : Kp S w w2 := h.trans h' (fun _ _ h => h.elim) (fun _ _ h => h)
theorem Kp.mono {S S' : Nat → Prop} {w w1 : World} (h : Kp S w w1) (hs : ∀ k, k < w.heap.size → S k → S' k) : Kp S' w w1 :=
  ⟨h.os, h.tape, h.output, h.size, fun k hk hn => h.block k hk (fun hk' => hn (hs k hk hk'))⟩
theorem Kp.ofGrown {w w' : World} {row : Option Nat} (h : w.grownBy w' row) {S : Nat → Prop} (hr : ∀ k, row = some k → k < w.heap.size → S k) : Kp S w w' :=
  ⟨h.os, h.tape, h.output, h.size, fun k hk hn => h.block k hk (fun he => hn (hr k he.symm hk))⟩
theorem Kp.ofN {w w' : World} (h : w.grownBy w' none) (S : Nat → Prop) : Kp S w w' := .ofGrown h (fun _ he _ => by cases he)
theorem Kp.grown {w w' : World} (h : Kp none' w w') : w.grownBy w' none := ⟨h.os, h.tape, h.output, h.size, fun k hk _ => h.block k hk (fun hf => hf)⟩
theorem Kp.alloc (S : Nat → Prop) (w : World) (o : Obj) : Kp S w (w.alloc o) := .ofN (World.grownBy_alloc w o none) S
theorem Kp.drew (S : Nat → Prop) (w : World) : Kp S w w.drew := ⟨rfl, rfl, rfl, Nat.le_refl _, fun _ _ _ => rfl⟩
theorem Kp.setCell {S : Nat → Prop} (w : World) (b o : Nat) (v : Value) (hb : S b) : Kp S w (w.setCell ⟨b, o, none⟩ v) :=
  ⟨rfl, rfl, rfl, by simp, fun k _ hk => heap_setCell_other w _ k _ (fun hh => hk (by subst hh; exact hb))⟩
theorem Kp.setCells {S : Nat → Prop} (b : Nat) (hb : S b) : ∀ (vs : List Value) (o : Nat) (w : World), Kp S w (w.setCells b o vs)
  | [], _, w => .refl S w
  | v :: r, o, w => (Kp.setCell w b o v hb).then (Kp.setCells b hb r (o + 1) _)
theorem Kp.setBlock {S : Nat → Prop} (w : World) (b : Nat) (o : Obj) (hb : S b) : Kp S w (setBlock w b o) :=
  ⟨rfl, rfl, rfl, by simp [ChangeMaps.setBlock], fun k _ hk => by
    unfold ChangeMaps.setBlock
    have : b ≠ k := fun e => hk (e ▸ hb)
    simp [this]⟩
theorem Kp.cell {S : Nat → Prop} {w w' : World} (h : Kp S w w') {b o : Nat} {v : Value} (hc : w.cell? ⟨b, o, none⟩ = some v) (hb : ¬ S b) : w'.cell? ⟨b, o, none⟩ = some v := by
  have hlt : b < w.heap.size := by
    unfold World.cell? at hc
    split at hc
    · rename_i he
      exact (Array.getElem?_eq_some_iff.1 he).1
    · cases hc
  rw [World.cell?_of_block (w := w) (h.block b hlt hb)]
  exact hc
theorem lt_of_cell {w : World} {b o : Nat} {v : Value} (hc : w.cell? ⟨b, o, none⟩ = some v) : b < w.heap.size := by
  unfold World.cell? at hc
  split at hc
  · rename_i he
    exact (Array.getElem?_eq_some_iff.1 he).1
  · cases hc
theorem Kp.frozen {S : Nat → Prop} {w w' : World} (h : Kp S w w') {b o : Nat} (hl : b < w.heap.size) (hb : ¬ S b) : w'.frozen? ⟨b, o, none⟩ = w.frozen? ⟨b, o, none⟩ :=
  World.frozen?_of_block (h.block b hl hb)
theorem Kp.rangeAt {S : Nat → Prop} {w w' : World} (h : Kp S w w') {b o : Nat} {cs : List Value} (hc : w.rangeAt b o cs) (hb : ¬ S b) : w'.rangeAt b o cs := fun j v hv => h.cell (hc j v hv) hb
theorem Kp.there {S : Nat → Prop} {w w' : World} (h : Kp S w w') {b o n : Nat} (hc : w.there b o n) (hb : ¬ S b) : w'.there b o n := fun j hj => by
  obtain ⟨h1, h2⟩ := hc j hj
  obtain ⟨v, hv⟩ := Option.isSome_iff_exists.1 h1
  exact ⟨by rw [h.cell hv hb]; rfl, by rw [h.frozen (lt_of_cell hv) hb]; exact h2⟩
/-- A sector's value. -/
def secV (l : List UInt8) : Value := .agg (bcs l).toArray
theorem bcs_inj : ∀ {l k : List UInt8}, bcs l = bcs k → l = k
  | [], [], _ => rfl
  | [], _ :: _, h => by simp [bcs] at h
  | _ :: _, [], h => by simp [bcs] at h
  | a :: l, b :: k, h => by
    simp only [bcs, List.map_cons, List.cons.injEq, Value.int.injEq, true_and] at h
    obtain ⟨h1, h2⟩ := h
    have e : a = b := UInt8.toNat_inj.1 (by omega)
    rw [e, bcs_inj (l := l) (k := k) h2]
theorem secV_inj {l k : List UInt8} (h : secV l = secV k) : l = k := by
  unfold secV at h
  have h1 := Value.agg.inj h
  exact bcs_inj (by simpa using congrArg Array.toList h1)
theorem Kp.drewN (S : Nat → Prop) (w : World) (n : Nat) : Kp S w (w.drewN n) := ⟨rfl, rfl, rfl, Nat.le_refl _, fun _ _ _ => rfl⟩
/-- A slice that lies among the blocks below B, of elements of one cell each. -/
def Sl {α : Type} (f : α → Value) (B : Nat) (w : World) (v : Value) (l : List α) : Prop :=
  ∃ a c, v = .slice a l.length c ∧ l.length ≤ c ∧ c ≤ maxLen ∧ ∀ i (h : i < l.length), ∃ b off, a = some ⟨b, off, none⟩ ∧ b < B ∧ w.cell? ⟨b, off + i, none⟩ = some (f l[i])
theorem Sl.nil {α : Type} (f : α → Value) (B : Nat) (w : World) : Sl f B w (.slice none 0 0) [] := ⟨none, 0, rfl, Nat.le_refl _, Nat.zero_le _, fun i h => absurd h (by simp)⟩
theorem Sl.kept {α : Type} {f : α → Value} {B : Nat} {w w' : World} {v : Value} {l : List α} {S : Nat → Prop} (h : Sl f B w v l) (hk : Kp S w w') (hS : ∀ k, k < B → ¬ S k) : Sl f B w' v l := by
  obtain ⟨a, c, rfl, h1, h2, h3⟩ := h
  refine ⟨a, c, rfl, h1, h2, fun i hi => ?_⟩
  obtain ⟨b, off, rfl, hb, c0⟩ := h3 i hi
  exact ⟨b, off, rfl, hb, hk.cell c0 (hS b hb)⟩
theorem reti {a b : Int} (h : a = b) : Ending.returned (.int .i64 a) = .returned (.int .i64 b) := by rw [h]
theorem bcs_at (l : List UInt8) (j : Nat) (h : j < l.length) : (bcs l)[j]? = some (.int .u8 (l[j].toNat : Int)) := by simp [bcs, h]
theorem infoU8 : (Tryz.prog.info? 5).map (fun i => (i.zero, i.size, i.bytes)) = some (some (.int .u8 0), 1, 1) := by kernel_rfl
/-- Only block b. -/
def only (b : Nat) : Nat → Prop := fun k => k = b
/-- 64 noughts. -/
def noughts : List UInt8 := List.replicate 64 0
theorem noughts_len : noughts.length = 64 := by simp [noughts]
theorem find_spec (i : Int) : ∀ (es : List MapEntry) (k : Nat), (∀ e ∈ es, ∃ z : Int, e.key = .int .i64 z) →
    (Instr.findNow (.int .i64) (.int .i64 i) es k = some none ∧ ∀ e ∈ es, e.key ≠ .int .i64 i) ∨ ∃ j e, es[j]? = some e ∧ e.key = .int .i64 i ∧ Instr.findNow (.int .i64) (.int .i64 i) es k = some (some (k + j, e.val))
  | [], k, _ => .inl ⟨rfl, by simp⟩
  | e :: es, k, h => by
    obtain ⟨z, hz⟩ := h e (by simp)
    by_cases hi : i = z
    · subst hi
      exact .inr ⟨0, e, rfl, hz, by simp [Instr.findNow, Instr.sameNow, hz]⟩
    · have hb : (i == z) = false := by simpa using hi
      rcases find_spec i es (k + 1) (fun e he => h e (by simp [he])) with ⟨h1, h2⟩ | ⟨j, e', h1, h2, h3⟩
      · refine .inl ⟨by simp [Instr.findNow, Instr.sameNow, hz, hb, h1], ?_⟩
        intro e' he'
        rcases List.mem_cons.1 he' with rfl | he'
        · rw [hz]
          intro hc
          exact hi (by cases hc; rfl)
        · exact h2 e' he'
      · exact .inr ⟨j + 1, e', by simpa using h1, h2, by simp [Instr.findNow, Instr.sameNow, hz, hb, h3]; omega⟩
theorem run_check (b : Bool) (i : Int) (w : World) : (Instr.checkKey b 10000 3 (.int .i64 i)).run Tryz.prog w = .ok () w := by
  show (Instr.checkKey b (9999 + 1) 3 (.int .i64 i)).run Tryz.prog w = .ok () w
  unfold Instr.checkKey
  rw [Sem.run_bind, run_underlying Tryz.underlying3 w]
  rfl
theorem wpList_copy_at {P : Program} (w : World) {ops : Array Oper} {rest : List Oper} {o : Oper} {a : Act} {Q : Exit → Act → World → Prop} (hgd : o.guard = none) (d s : Operand) (t t' : TypeId)
    (ho : o.op = .call { callee := .builtin .copy, args := #[d, s], argTypes := #[t, t'] }) (v u : Value) (hd : a.eval d = v) (hs : a.eval s = u) {v' : Value} {w' : World}
    (hr : (Builtin.copy_ #[t, t'] o.type #[v, u]).run P w = .ok v' w') (h : wpList P ops Q rest (a.put o.dst v') w') : wpList P ops Q (o :: rest) a w :=
  wpList_plain hgd fun _ hK => by
    unfold Oper.wp execOp
    simp only [ho, resolve, invoke, builtin, Sem.run_bind, Sem.run_pure, Result.andThen_ok, List.map_toArray, List.map_cons, List.map_nil, hd, hs, hr]
    exact hK _ _ h
/-- A sector's bytes of a text. -/
def whole (l : List UInt8) : List UInt8 := (l ++ noughts).take 64
theorem whole_len (l : List UInt8) : (whole l).length = 64 := by simp [whole, noughts_len]
theorem take_bcs (s : ByteArray) (h : s.size ≤ 64) : (((bcs noughts).toArray.toList.take 0 ++ Lib.byteCells s.data.toList ++ (bcs noughts).toArray.toList.drop (0 + s.size)).toArray : Array Value) = (bcs (whole s.data.toList)).toArray := by
  have hl : s.data.toList.length = s.size := by rw [Array.length_toList]; rfl
  have e : whole s.data.toList = s.data.toList ++ noughts.drop s.size := by
    unfold whole
    rw [List.take_append, List.take_of_length_le (by omega), hl]
    congr 1
    unfold noughts
    rw [List.take_replicate, List.drop_replicate]
    congr 1
    omega
  rw [e, bcs_append]
  simp [bcs, Lib.byteCells, List.map_drop]
theorem wpList_make_at {P : Program} {w : World} {ops : Array Oper} {rest : List Oper} {o : Oper} {a : Act} {Q : Exit → Act → World → Prop} (hgd : o.guard = none) (l c : Operand) (t : TypeId) (ho : o.op = .makeSlice t l c)
    (v u : Value) (hd : a.eval l = v) (hs : a.eval c = u) {v' : Value} {w' : World} (hr : (Instr.makeSlice t v u).run P w = .ok v' w') (h : wpList P ops Q rest (a.put o.dst v') w') : wpList P ops Q (o :: rest) a w :=
  wpList_plain hgd fun _ hK => by
    unfold Oper.wp execOp
    simp only [ho, Sem.run_bind, Sem.run_pure, Result.andThen_ok, hd, hs, hr]
    exact hK _ _ h
/-- A slice of the call's own, of elements of one cell each. -/
def Ow {α : Type} (f : α → Value) (e : TypeId) (w : World) (base : Nat) (v : Value) (l : List α) : Prop := w.ownsRow base e 1 v l.length (l.map f)
theorem Ow.nil {α : Type} (f : α → Value) (e : TypeId) (w : World) (base : Nat) : Ow f e w base (.slice none 0 0) [] := World.ownsRow_nil w base e 1
theorem Ow.shape {α : Type} {f : α → Value} {e : TypeId} {w : World} {base : Nat} {v : Value} {l : List α} (h : Ow f e w base v l) : (v = .slice none 0 0 ∧ l = []) ∨
    ∃ g cap, v = .slice (some ⟨g, 0, none⟩) l.length cap ∧ base ≤ g ∧ g < w.heap.size ∧ (∀ j (hj : j < l.length), w.cell? ⟨g, j, none⟩ = some (f l[j])) := by
  have h' := h
  rcases h.2 with ⟨rfl, h0⟩ | ⟨g, cap, cur, rfl, hb, hg, _⟩
  · exact .inl ⟨rfl, List.eq_nil_of_length_eq_zero h0⟩
  · refine .inr ⟨g, cap, rfl, hb, (Array.getElem?_eq_some_iff.1 hg).1, fun j hj => ?_⟩
    have hc := World.ownsRow.cellAt (g := g) (cap := cap) h' j (by omega)
    rw [hc]
    simp [hj]
theorem Ow.kept {α : Type} {f : α → Value} {e : TypeId} {w w' : World} {base : Nat} {v : Value} {l : List α} {S : Nat → Prop} (h : Ow f e w base v l) (hk : Kp S w w') (hS : ∀ k, v.ownBlock = some k → ¬ S k) : Ow f e w' base v l := by
  rcases h.2 with ⟨rfl, h0⟩ | ⟨g, cap, cur, rfl, hb, hg, h1, h2, h3, h4⟩
  · exact ⟨h.1, .inl ⟨rfl, h0⟩⟩
  · have hlt : g < w.heap.size := (Array.getElem?_eq_some_iff.1 hg).1
    exact ⟨h.1, .inr ⟨g, cap, cur, rfl, hb, by rw [hk.block g hlt (hS g rfl)]; exact hg, h1, h2, h3, h4⟩⟩
theorem Ow.lt {α : Type} {f : α → Value} {e : TypeId} {w : World} {base : Nat} {v : Value} {l : List α} (h : Ow f e w base v l) : ∀ k, v.ownBlock = some k → base ≤ k ∧ k < w.heap.size := World.ownsRow.lt h
theorem src_cell {P : Program} (w : World) (t e : TypeId) (ht : P.underlying t = some (.slice e)) (x : Value) (hx : x.oneCell' = true) (g : Nat) (hg : w.heap.size = g) : Src P 1 t (.slice (some ⟨g, 0, none⟩) 1 1) 1 [x] (w.alloc (.cells #[x] e)) := by
  subst hg
  refine Src.ofSlice (e' := e) _ ht ⟨w.heap.size, 0, none⟩ 1 1 [x] (by simp) ?_ (by intro u hu; simp at hu; subst hu; exact hx)
  intro j u hj
  match j, hj with
  | 0, hj => simp at hj; subst hj; simp [Addr.add]
  | (j + 1), hj => simp at hj
theorem infoI : (Tryz.prog.info? 3).map (fun i => (i.zero, i.size, i.bytes)) = some (some (.int .i64 0), 1, 8) := by kernel_rfl
theorem hide {p : Prop} (h : p) : Hid p := h
theorem Ow.open {α : Type} {f : α → Value} {e : TypeId} {w : World} {base : Nat} {v : Value} {l : List α} (h : Ow f e w base v l) : ∃ a c, v = .slice a l.length c ∧ ∀ j (hj : j < l.length), ∃ g, a = some ⟨g, 0, none⟩ ∧ base ≤ g ∧ w.cell? ⟨g, j, none⟩ = some (f l[j]) := by
  rcases h.shape with ⟨rfl, rfl⟩ | ⟨g, cap, rfl, hb, _, hc⟩
  · exact ⟨none, 0, rfl, fun j hj => absurd hj (by simp)⟩
  · exact ⟨some ⟨g, 0, none⟩, cap, rfl, fun j hj => ⟨g, rfl, hb, hc j hj⟩⟩
theorem Ow.stored {α : Type} {f : α → Value} {e : TypeId} {w : World} {base g n cap : Nat} {l : List α} (h : Ow f e w base (.slice (some ⟨g, 0, none⟩) n cap) l) (j : Nat) (c : α) :
    Ow f e (w.setCell ⟨g, j, none⟩ (f c)) base (.slice (some ⟨g, 0, none⟩) n cap) (l.set j c) ∧ w.grownBy (w.setCell ⟨g, j, none⟩ (f c)) (some g) := by
  have hn : n = l.length := by
    rcases h.2 with ⟨h1, _⟩ | ⟨g', cap', cur, h1, _⟩
    · cases h1
    · cases h1; rfl
  subst hn
  have h2 := World.ownsRow.stored (g := g) (cap := cap) h j (f c)
  refine ⟨?_, h2.2⟩
  have e1 : (l.set j c).map f = (l.map f).set j (f c) := by simp [List.map_set]
  unfold Ow
  rw [e1, List.length_set]
  exact h2.1
theorem whole_short (l : List UInt8) (h : l.length ≤ 64) : whole l = l ++ noughts.drop l.length := by
  unfold whole
  rw [List.take_append, List.take_of_length_le h]
  congr 1
  unfold noughts
  rw [List.take_replicate, List.drop_replicate]
  congr 1
  omega
theorem whole_step (l : List UInt8) (j : Nat) (h : j < l.length) (hj : j < 64) : (whole (l.take j)).set j l[j] = whole (l.take (j + 1)) := by
  have h1 : (l.take j).length = j := by rw [List.length_take]; omega
  have h2 : (l.take (j + 1)).length = j + 1 := by rw [List.length_take]; omega
  rw [whole_short _ (by omega), whole_short _ (by omega), h1, h2, List.set_append_right _ _ (by omega), h1, Nat.sub_self]
  have e : noughts.drop j = 0 :: noughts.drop (j + 1) := by
    rw [List.drop_eq_getElem_cons (by rw [noughts_len]; exact hj)]
    congr 1
    unfold noughts
    exact List.getElem_replicate _
  rw [e, List.set_cons_zero, List.take_succ_eq_append_getElem h, List.append_assoc]
  rfl
theorem whole_take (l : List UInt8) : whole (l.take 64) = whole l := by
  unfold whole
  rw [List.take_append, List.take_append, List.take_take, Nat.min_self, List.length_take]
  congr 2
  omega
theorem Ow.sl {α : Type} {f : α → Value} {e : TypeId} {w : World} {base : Nat} {v : Value} {l : List α} (h : Ow f e w base v l) : Sl f w.heap.size w v l := by
  have h' := h
  rcases h.2 with ⟨rfl, h0⟩ | ⟨g, cap, cur, rfl, hb, hg, h1, h2, _⟩
  · have : l = [] := List.eq_nil_of_length_eq_zero h0
    subst this
    exact Sl.nil _ _ _
  · refine ⟨some ⟨g, 0, none⟩, cap, rfl, h1, h2, fun j hj => ⟨g, 0, rfl, (Array.getElem?_eq_some_iff.1 hg).1, ?_⟩⟩
    have hc := World.ownsRow.cellAt (g := g) (cap := cap) h' j (by omega)
    rw [Nat.zero_add, hc]
    simp [hj]
theorem Sl.keptN {α : Type} {f : α → Value} {B : Nat} {w w' : World} {v : Value} {l : List α} (h : Sl f B w v l) (hk : Kp none' w w') : Sl f B w' v l := h.kept hk (fun _ _ h => h)
theorem Ow.keptN {α : Type} {f : α → Value} {e : TypeId} {w w' : World} {base : Nat} {v : Value} {l : List α} (h : Ow f e w base v l) (hk : Kp none' w w') : Ow f e w' base v l := h.kept hk (fun _ _ h => h)
end Go.Proofs.YtgfijbbibafdfaaGreat
