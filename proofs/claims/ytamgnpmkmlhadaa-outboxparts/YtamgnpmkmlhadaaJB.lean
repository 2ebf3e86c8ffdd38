/- Laws on slices of bytes that a call itself has made: what they own, what an append (of bytes, of a string) makes of them, and the string they are turned into; for every program. No conditions but those that each law states. Laws for every program, and some contracts over the turned one: what has turned from one world to another (Kp), slices that came in (Sl) and slices that the call owns (Ow), a sector's bytes, a map with numbers for keys, factotumref04's Whole and SameInts. Conditions: those that each theorem states. Contracts, over the turned program: pack's width brings any k to 1 to 8; pack.Num appends the low bytes of any number to bytes that the call itself owns. Conditions: those that each theorem states. Contracts, over the turned program: each method of a pack.Reader, of nil and of a reader that stands anywhere in any bytes, and pack.Str, pack.Fits, pack.From. Conditions: those that each theorem states. Plain facts on numbers and their bytes, the highest first: they are ordered as the numbers, and unlike where those are; the number that bytes are is the number again. No conditions but those that each states. Laws on slices, of elements of any size, that a call itself has made: what an append of further elements makes of them, and where the result lies; for every program. No conditions but those that each law states. What a reader of pack reads that stands ahead of given bytes: a written number, text or bytes, and where it stands then. Conditions: those that each theorem states. -/
import Derived.WalkKit
import Derived.ProofKit
import Derived.WalkSpells
import Derived.Deep.AppendSrc
import Derived.Test.YtamgnpmkmlhadaaChecked
import Derived.Deep.MidRow
import Derived.Maps.RangeRun
import Derived.Maps.RangeWalk
import Derived.ChangeKeysEq
import Derived.Lib.BufferWrite
import Derived.Deep.WholeRow
import Derived.Maps.OwnOps
import Derived.WalkLawsBesides
import Derived.BigQuiet
import Derived.Deep.QuietTactic
import Derived.Deep.CutRange
import Derived.Deep.RegionWith
import Derived.Deep.RegionHeldLaw
import Derived.Carry
import Derived.Laws.MakeOwn
import Derived.Test.YtamgnpmkmlhadaaProg
import Derived.Outline
namespace Go.Proofs.Ytamgnpmkmlhadaa
open Go Go.RowKit

/-- Bytes as cells. -/
def bcs (l : List UInt8) : List Value := l.map fun b => Value.int .u8 (b.toNat : Int)
theorem bcs_len (l : List UInt8) : (bcs l).length = l.length := by simp [bcs]
theorem bcs_append (l k : List UInt8) : bcs (l ++ k) = bcs l ++ bcs k := by simp [bcs]
theorem bcs_one (l : List UInt8) : ∀ u ∈ bcs l, u.oneCell' = true := by
  intro u hu
  obtain ⟨_, _, rfl⟩ := List.mem_map.1 hu
  rfl
theorem bcs_bytes (s : ByteArray) : bcs s.data.toList = byteCells s := rfl

/-- The slice value v owns the bytes l (element type e), in a block from 'base' on, or is nil and l is empty. -/
def Own (e : TypeId) (w : World) (base : Nat) (v : Value) (l : List UInt8) : Prop := w.ownsRow base e 1 v l.length (bcs l)

theorem Own.nil (e : TypeId) (w : World) (base : Nat) : Own e w base (.slice none 0 0) [] := World.ownsRow_nil w base e 1
theorem Own.lt {e : TypeId} {w : World} {base : Nat} {v : Value} {l : List UInt8} (h : Own e w base v l) : ∀ k, v.ownBlock = some k → base ≤ k ∧ k < w.heap.size := World.ownsRow.lt h
theorem Own.kept {e : TypeId} {w w' : World} {base : Nat} {v : Value} {l : List UInt8} {row : Option Nat} (h : Own e w base v l) (hg : w.grownBy w' row) (hne : v.ownBlock = none ∨ v.ownBlock ≠ row) : Own e w' base v l :=
  World.ownsRow.kept h hg hne
theorem Own.alloc {e : TypeId} {w : World} {base : Nat} {v : Value} {l : List UInt8} (h : Own e w base v l) (o : Obj) : Own e (w.alloc o) base v l := World.ownsRow.alloc h o
theorem Own.drew {e : TypeId} {w : World} {base : Nat} {v : Value} {l : List UInt8} (h : Own e w base v l) : Own e w.drew base v l := World.ownsRow.drew h
theorem Own.mono {e : TypeId} {w : World} {base base' : Nat} {v : Value} {l : List UInt8} (h : Own e w base v l) (hb : base' ≤ base) : Own e w base' v l := by
  refine ⟨h.1, ?_⟩
  rcases h.2 with hn | ⟨g, cap, cur, rfl, hb2, rest⟩
  · exact .inl hn
  · exact .inr ⟨g, cap, cur, rfl, by omega, rest⟩
theorem Own.bound {e : TypeId} {w : World} {base : Nat} {v : Value} {l : List UInt8} (h : Own e w base v l) : l.length ≤ maxLen := by
  rcases h.2 with ⟨_, h0⟩ | ⟨g, cap, cur, rfl, _, _, h1, h2, _⟩
  · omega
  · omega
/-- Its shape. -/
theorem Own.shape {e : TypeId} {w : World} {base : Nat} {v : Value} {l : List UInt8} (h : Own e w base v l) : (v = .slice none 0 0 ∧ l = []) ∨ ∃ g cap, v = .slice (some ⟨g, 0, none⟩) l.length cap ∧ base ≤ g ∧ g < w.heap.size ∧ ∀ j (hj : j < l.length), w.cell? ⟨g, j, none⟩ = some (.int .u8 (l[j].toNat : Int)) := by
  have h' := h
  rcases h.2 with ⟨rfl, h0⟩ | ⟨g, cap, cur, rfl, hb, hg, _⟩
  · exact .inl ⟨rfl, List.eq_nil_of_length_eq_zero h0⟩
  · refine .inr ⟨g, cap, rfl, hb, (Array.getElem?_eq_some_iff.1 hg).1, fun j hj => ?_⟩
    have hc := World.ownsRow.cellAt (g := g) (cap := cap) h' j (by omega)
    rw [hc]
    simp [bcs, hj]

theorem run_append_own_bytes {P : Program} (w : World) (base : Nat) (t tx ty e : TypeId) (i : TypeInfo) (ht : P.underlying t = some (.slice e)) (hi : P.info? e = some i) (hz : i.zero = some (.int .u8 0))
    (hsize : i.size = 1) (hby : i.bytes = 1) (v : Value) (l : List UInt8) (hown : Own e w base v l) (x : Value) (k : List UInt8) (hs : Src P 1 tx x k.length (bcs k) w)
    (hb : l.length + k.length ≤ 140737488355328) (hbase : base ≤ w.heap.size) :
    ∃ v' w', (Builtin.append_ #[t, tx] ty #[v, x]).run P w = .ok v' w' ∧ Own e w' base v' (l ++ k) ∧ w.grownBy w' v.ownBlock ∧ (v'.ownBlock = v.ownBlock ∨ v'.ownBlock = some w.heap.size) := by
  have hs' : Src P i.size tx x k.length (bcs k) w := by rw [hsize]; exact hs
  have hml : l.length + k.length ≤ maxLen := by simp only [maxLen]; omega
  have hlen : (bcs l ++ bcs k).length = l.length + k.length := by simp [bcs_len]
  have grown : ∀ (old : Nat), old < l.length + k.length → ∀ (row : Option Nat),
      Own e (w.drew.alloc (.cells ((bcs l ++ bcs k).toArray ++ Builtin.zeroCells (Value.int .u8 0).cells (grownCap w (l.length + k.length) old e - (l.length + k.length))) e)) base
        (.slice (some ⟨w.heap.size, 0, none⟩) (l.length + k.length) (grownCap w (l.length + k.length) old e)) (l ++ k) ∧
      w.grownBy (w.drew.alloc (.cells ((bcs l ++ bcs k).toArray ++ Builtin.zeroCells (Value.int .u8 0).cells (grownCap w (l.length + k.length) old e - (l.length + k.length))) e)) row := by
    intro old ho row
    have hge := grownCap_ge w (l.length + k.length) old e
    have hcm : grownCap w (l.length + k.length) old e ≤ maxLen := grownCap_le_maxLen w _ old e hml
    have hz1 : (Value.int .u8 0).cells.size = 1 := rfl
    refine ⟨⟨by rw [bcs_append, hlen, List.length_append, Nat.mul_one], .inr ⟨w.heap.size, grownCap w (l.length + k.length) old e, _, by rw [List.length_append], hbase, heap_alloc_new w.drew _, by rw [List.length_append]; exact hge, hcm, ?_, ?_⟩⟩, ⟨rfl, rfl, rfl, by simp, fun k' hk _ => heap_alloc_old w.drew _ hk⟩⟩
    · simp only [Array.size_append, List.size_toArray, size_zeroCells, hz1, hlen]
      omega
    · rw [List.length_append, Nat.mul_one, bcs_append]
      simp only [Array.toList_append]
      rw [← hlen]
      exact List.take_left
  rcases hown.2 with ⟨rfl, h0⟩ | ⟨g, cap, cur, rfl, hbg, hg, hnc, hcm, hcs, htake⟩
  · have hl : l = [] := List.eq_nil_of_length_eq_zero h0
    subst hl
    by_cases hk : k = []
    · subst hk
      refine ⟨.slice none 0 0, w, ?_, Own.nil e w base, ⟨rfl, rfl, rfl, Nat.le_refl _, fun _ _ _ => rfl⟩, .inl rfl⟩
      have hc := hs'.cells
      have hn := hs'.len
      simp only [List.length_nil] at hc hn
      rcases hs.kind with ⟨e', hk'⟩ | hk' <;> simp [Builtin.append_, run_underlying ht, run_underlying hk', sizeOf, typeInfo, hi, hn, hc]
    · have hkl : 0 < k.length := List.length_pos_iff.2 hk
      have hr := run_append_grow_src (P := P) w t tx ty e i (.int .u8 0) ht hi hz none 0 0 [] (run_firstCells_none w.drew i.size 0 0 0) x k.length (bcs k) hs' (by omega) (by simp only [List.length_nil] at hb; omega)
        (growslice_fits (by omega) (by rw [hby]; simp only [List.length_nil] at hb; omega))
      have hgr := grown 0 (by omega) (Value.ownBlock (.slice none 0 0))
      exact ⟨_, _, hr, hgr.1, hgr.2, .inr rfl⟩
  · by_cases hroom : l.length + k.length ≤ cap
    · have hf := hs'.cells
      have hfit : l.length * i.size + (bcs k).length ≤ cur.size := by rw [hsize, hcs, bcs_len]; omega
      have hst := run_storeCells_at P g (l.length * i.size) e (bcs k) 0 cur w hg (by simpa using hfit) hs.one
      simp only [Nat.add_zero] at hst
      have hr : (Builtin.append_ #[t, tx] ty #[.slice (some ⟨g, 0, none⟩) l.length cap, x]).run P w =
          .ok (.slice (some ⟨g, 0, none⟩) (l.length + k.length) cap) (w.setRow g (cur.toList.take (l.length * i.size) ++ bcs k ++ cur.toList.drop (l.length * i.size + (bcs k).length)).toArray) := by
        rcases hs.kind with ⟨e', hk'⟩ | hk' <;> simp [Builtin.append_, run_underlying ht, run_underlying hk', sizeOf, typeInfo, hi, hs.len, hroom, hf, Addr.add_lit, hst]
      refine ⟨_, _, hr, ⟨by rw [bcs_append, hlen, List.length_append, Nat.mul_one], .inr ⟨g, cap, _, by rw [List.length_append], hbg, setRow_heap w g cur _ e _ hg, by rw [List.length_append]; exact hroom, hcm, ?_, ?_⟩⟩, ⟨rfl, rfl, rfl, by simp, fun k' _ hk => setRow_other w g k' _ (fun e => hk (by simp [Value.ownBlock, e]))⟩, .inl rfl⟩
      · simp only [List.size_toArray, List.length_append, List.length_take, List.length_drop, Array.length_toList, bcs_len, hsize]
        omega
      · rw [hsize, htake, List.length_append, Nat.mul_one, bcs_append, ← hlen]
        exact List.take_left
    · have holds : ∀ j u, (bcs l)[j]? = some u → w.cell? ((⟨g, 0, none⟩ : Addr).add j) = some u := World.ownsRow.cells hown (g := g) rfl
      have hr := run_append_grow_src (P := P) w t tx ty e i (.int .u8 0) ht hi hz (some ⟨g, 0, none⟩) l.length cap (bcs l) (run_firstCells_some w.drew i.size l.length ⟨g, 0, none⟩ l.length cap (bcs l) (by rw [hsize, bcs_len, Nat.mul_one]) (by simpa using holds)) x k.length (bcs k) hs' (by omega) (by omega)
        (growslice_fits (by omega) (by rw [hby]; omega))
      have hgr := grown cap (by omega) (Value.ownBlock (.slice (some ⟨g, 0, none⟩) l.length cap))
      exact ⟨_, _, hr, hgr.1, hgr.2, .inr rfl⟩

theorem wp_append_bytes {P : Program} (w : World) {o : Oper} {a : Act} {K : Act → World → Prop} {Q : Exit → Act → World → Prop} (s x : Operand) (t tx : TypeId)
    (ho : o.op = .call { callee := .builtin .append, args := #[s, x], argTypes := #[t, tx] }) (base : Nat) (e : TypeId) (i : TypeInfo) (ht : P.underlying t = some (.slice e)) (hi : P.info? e = some i) (hz : i.zero = some (.int .u8 0))
    (hsize : i.size = 1) (hby : i.bytes = 1) (v : Value) (l : List UInt8) (hs : a.eval s = v) (hown : Own e w base v l) (xv : Value) (k : List UInt8) (hx : a.eval x = xv) (hsrc : Src P 1 tx xv k.length (bcs k) w)
    (hb : l.length + k.length ≤ 140737488355328) (hbase : base ≤ w.heap.size)
    (h : ∀ v' w', Own e w' base v' (l ++ k) → w.grownBy w' v.ownBlock → (v'.ownBlock = v.ownBlock ∨ v'.ownBlock = some w.heap.size) → K (a.put o.dst v') w') : o.wp P a w K Q := by
  obtain ⟨v', w', hr, h2, h3, h4⟩ := run_append_own_bytes (P := P) w base t tx o.type e i ht hi hz hsize hby v l hown xv k hsrc hb hbase
  unfold Oper.wp execOp
  simp only [ho, resolve, invoke, builtin, Sem.run_bind, Sem.run_pure, Result.andThen_ok, List.map_toArray, List.map_cons, List.map_nil, hs, hx, hr]
  exact h v' w' h2 h3 h4

theorem wpList_append_bytes {P : Program} (w : World) {ops : Array Oper} {rest : List Oper} {o : Oper} {a : Act} {Q : Exit → Act → World → Prop} (hgd : o.guard = none) (s x : Operand) (t tx : TypeId)
    (ho : o.op = .call { callee := .builtin .append, args := #[s, x], argTypes := #[t, tx] }) (base : Nat) (e : TypeId) (i : TypeInfo) (ht : P.underlying t = some (.slice e)) (hi : P.info? e = some i) (hz : i.zero = some (.int .u8 0))
    (hsize : i.size = 1) (hby : i.bytes = 1) (v : Value) (l : List UInt8) (hs : a.eval s = v) (hown : Own e w base v l) (xv : Value) (k : List UInt8) (hx : a.eval x = xv) (hsrc : Src P 1 tx xv k.length (bcs k) w)
    (hb : l.length + k.length ≤ 140737488355328) (hbase : base ≤ w.heap.size)
    (h : ∀ v' w', Own e w' base v' (l ++ k) → w.grownBy w' v.ownBlock → (v'.ownBlock = v.ownBlock ∨ v'.ownBlock = some w.heap.size) → wpList P ops Q rest (a.put o.dst v') w') : wpList P ops Q (o :: rest) a w :=
  wpList_plain hgd fun _ hK => wp_append_bytes w s x t tx ho base e i ht hi hz hsize hby v l hs hown xv k hx hsrc hb hbase fun v' w' h2 h3 h4 => hK _ _ (h v' w' h2 h3 h4)

/-- 'string(b)' of an owned slice. -/
theorem run_convert_own {P : Program} (w : World) (src dst e : TypeId) (hs : P.underlying src = some (.slice e)) (he : P.underlying e = some (.int .u8)) (hd : P.underlying dst = some .string) {base : Nat} {v : Value} {l : List UInt8} (h : Own e w base v l) :
    (convert src dst v).run P w = .ok (.string ⟨l.toArray⟩) w := by
  rcases h.shape with ⟨rfl, rfl⟩ | ⟨g, cap, rfl, _, _, hc⟩
  · rw [run_convert_bytes_nil w src e hs he 0 0 dst hd]; rfl
  · exact run_convert_bytes_back w src dst e ⟨g, 0, none⟩ cap l hs he hd (fun j hj => by rw [← hc j hj]; congr 1; simp [Addr.add]; omega)

/-- One byte stored. -/
theorem Own.stored {e : TypeId} {w : World} {base g n cap : Nat} {l : List UInt8} (h : Own e w base (.slice (some ⟨g, 0, none⟩) n cap) l) (j : Nat) (c : UInt8) :
    Own e (w.setCell ⟨g, j, none⟩ (.int .u8 (c.toNat : Int))) base (.slice (some ⟨g, 0, none⟩) n cap) (l.set j c) ∧ w.grownBy (w.setCell ⟨g, j, none⟩ (.int .u8 (c.toNat : Int))) (some g) := by
  have hn : n = l.length := by
    rcases h.2 with ⟨h1, _⟩ | ⟨g', cap', cur, h1, _⟩
    · cases h1
    · cases h1; rfl
  subst hn
  have h2 := World.ownsRow.stored (g := g) (cap := cap) h j (.int .u8 (c.toNat : Int))
  refine ⟨?_, h2.2⟩
  have e1 : bcs (l.set j c) = (bcs l).set j (.int .u8 (c.toNat : Int)) := by simp [bcs, List.map_set]
  unfold Own
  rw [e1, List.length_set]
  exact h2.1
theorem Own.cellAt {e : TypeId} {w : World} {base g n cap : Nat} {l : List UInt8} (h : Own e w base (.slice (some ⟨g, 0, none⟩) n cap) l) (j : Nat) (hj : j < l.length) : w.cell? ⟨g, j, none⟩ = some (.int .u8 (l[j].toNat : Int)) ∧ w.frozen? ⟨g, j, none⟩ = false := by
  have hn : n = l.length := by
    rcases h.2 with ⟨h1, _⟩ | ⟨g', cap', cur, h1, _⟩
    · cases h1
    · cases h1; rfl
  subst hn
  refine ⟨?_, World.ownsRow.frozenAt (g := g) (cap := cap) h j⟩
  rw [World.ownsRow.cellAt (g := g) (cap := cap) h j (by omega)]
  simp [bcs, hj]

/-- Chaining 'grownBy'. -/
theorem grown_trans {w w1 w2 : World} {row row' : Option Nat} (h : w.grownBy w1 row) (h' : w1.grownBy w2 row') (hr : row' = row ∨ ∃ k, row' = some k ∧ w.heap.size ≤ k) : w.grownBy w2 row :=
  ⟨h'.os.trans h.os, h'.tape.trans h.tape, h'.output.trans h.output, Nat.le_trans h.size h'.size, fun k hk hne => by
    rw [h'.block k (Nat.lt_of_lt_of_le hk h.size) (by
      rcases hr with rfl | ⟨k', rfl, hk'⟩
      · exact hne
      · intro he; cases he; omega)]
    exact h.block k hk hne⟩

/-- The slice v of the world w has become v' in w': nothing that was there has turned but v's own row; v' lies in that row or in a new one. -/
def Fr (w : World) (v : Value) (w' : World) (v' : Value) : Prop := w.grownBy w' v.ownBlock ∧ (v'.ownBlock = v.ownBlock ∨ ∃ g, v'.ownBlock = some g ∧ w.heap.size ≤ g)
theorem Fr.refl (w : World) (v : Value) : Fr w v w v := ⟨World.grownBy.refl w _, .inl rfl⟩
theorem Fr.alloc {w : World} {v : Value} {w1 : World} {b : Value} (h : Fr w v w1 b) (o : Obj) : Fr w v (w1.alloc o) b :=
  ⟨grown_trans h.1 (World.grownBy_alloc w1 o v.ownBlock) (.inl rfl), h.2⟩
theorem Fr.step {w : World} {v : Value} {w1 : World} {b : Value} {w2 : World} {b' : Value} (h : Fr w v w1 b) (hg : w1.grownBy w2 b.ownBlock) (hb : b'.ownBlock = b.ownBlock ∨ b'.ownBlock = some w1.heap.size) : Fr w v w2 b' := by
  refine ⟨grown_trans h.1 hg h.2, ?_⟩
  rcases hb with hb | hb
  · rw [hb]; exact h.2
  · exact .inr ⟨_, hb, h.1.size⟩
theorem Fr.trans {w : World} {v : Value} {w1 : World} {b : Value} {w2 : World} {b' : Value} (h : Fr w v w1 b) (h' : Fr w1 b w2 b') : Fr w v w2 b' := by
  refine ⟨grown_trans h.1 h'.1 h.2, ?_⟩
  rcases h'.2 with hb | ⟨g, hg, hle⟩
  · rw [hb]; exact h.2
  · exact .inr ⟨g, hg, Nat.le_trans h.1.size hle⟩
theorem Fr.below {w0 w : World} {v : Value} {w' : World} {v' : Value} {B : Nat} (h : Fr w v w' v') (hb : Below B w0 w) (hB : B ≤ w.heap.size) (hv : ∀ k, v.ownBlock = some k → B ≤ k) : Below B w0 w' :=
  hb.grown h.1 hB hv

/-- One byte, in a new block, as what is appended. -/
theorem src_one {P : Program} (w : World) (t e : TypeId) (ht : P.underlying t = some (.slice e)) (c : UInt8) (z : Int) (hz : z = (c.toNat : Int)) :
    Src P 1 t (.slice (some ⟨w.heap.size, 0, none⟩) 1 1) [c].length (bcs [c]) (w.alloc (.cells #[.int .u8 z] e)) := by
  subst hz
  refine Src.ofSlice (e' := e) _ ht ⟨w.heap.size, 0, none⟩ 1 1 (bcs [c]) (by simp [bcs]) ?_ (bcs_one [c])
  intro j u hj
  match j, hj with
  | 0, hj => simp [bcs] at hj; subst hj; simp [Addr.add]

/-- A string as what is appended. -/
theorem src_str {P : Program} (w : World) (tx : TypeId) (hk : P.underlying tx = some .string) (s : ByteArray) : Src P 1 tx (.string s) s.data.toList.length (bcs s.data.toList) w := by
  have h := Src.ofString (P := P) w hk s
  have e : s.data.toList.length = s.size := by rw [Array.length_toList]; rfl
  rw [e]
  exact h

end Go.Proofs.Ytamgnpmkmlhadaa

namespace Go.Proofs.Ytamgnpmkmlhadaa
open Go Go.RowKit
open Go.ChangeMaps (setBlock)
set_option linter.unusedVariables false
/-- From w to w' nothing has turned but the blocks of S; new blocks may be there. -/
structure Kp (S : Nat → Prop) (w w' : World) : Prop where
  os : w'.os = w.os
  tape : w'.tape = w.tape
  output : w'.output = w.output
  size : w.heap.size ≤ w'.heap.size
  block : ∀ k, k < w.heap.size → ¬ S k → w'.heap[k]? = w.heap[k]?
/-- No block. -/
def none' : Nat → Prop := fun _ => False
theorem Kp.refl (S : Nat → Prop) (w : World) : Kp S w w := ⟨rfl, rfl, rfl, Nat.le_refl _, fun _ _ _ => rfl⟩
theorem Kp.trans {S S' S'' : Nat → Prop} {w w1 w2 : World} (h : Kp S w w1) (h' : Kp S' w1 w2) (h1 : ∀ k, k < w.heap.size → S k → S'' k) (h2 : ∀ k, k < w.heap.size → S' k → S'' k) : Kp S'' w w2 :=
  ⟨h'.os.trans h.os, h'.tape.trans h.tape, h'.output.trans h.output, Nat.le_trans h.size h'.size, fun k hk hn => by
    rw [h'.block k (Nat.lt_of_lt_of_le hk h.size) (fun hs => hn (h2 k hk hs)), h.block k hk (fun hs => hn (h1 k hk hs))]⟩
theorem Kp.then {S : Nat → Prop} {w w1 w2 : World} (h : Kp S w w1) (h' : Kp S w1 w2) : Kp S w w2 := h.trans h' (fun _ _ h => h) (fun _ _ h => h)
theorem Kp.thenN {S : Nat → Prop} {w w1 w2 : World} (h : Kp S w w1) (h' : Kp none' w1 w2) : Kp S w w2 := h.trans h' (fun _ _ h => h) (fun _ _ h => h.elim)
theorem Kp.nThen {S : Nat → Prop} {w w1 w2 : World} (h : Kp none' w w1) (h' : Kp S w1 w2) : Kp S w w2 := h.trans h' (fun _ _ h => h.elim) (fun _ _ h => h)
theorem Kp.mono {S S' : Nat → Prop} {w w1 : World} (h : Kp S w w1) (hs : ∀ k, k < w.heap.size → S k → S' k) : Kp S' w w1 :=
  ⟨h.os, h.tape, h.output, h.size, fun k hk hn => h.block k hk (fun hk' => hn (hs k hk hk'))⟩
theorem Kp.ofGrown {w w' : World} {row : Option Nat} (h : w.grownBy w' row) {S : Nat → Prop} (hr : ∀ k, row = some k → k < w.heap.size → S k) : Kp S w w' :=
  ⟨h.os, h.tape, h.output, h.size, fun k hk hn => h.block k hk (fun he => hn (hr k he.symm hk))⟩
theorem Kp.ofN {w w' : World} (h : w.grownBy w' none) (S : Nat → Prop) : Kp S w w' := .ofGrown h (fun _ he _ => by cases he)
theorem Kp.grown {w w' : World} (h : Kp none' w w') : w.grownBy w' none := ⟨h.os, h.tape, h.output, h.size, fun k hk _ => h.block k hk (fun hf => hf)⟩
theorem Kp.alloc (S : Nat → Prop) (w : World) (o : Obj) : Kp S w (w.alloc o) := .ofN (World.grownBy_alloc w o none) S
theorem Kp.drew (S : Nat → Prop) (w : World) : Kp S w w.drew := ⟨rfl, rfl, rfl, Nat.le_refl _, fun _ _ _ => rfl⟩
theorem Kp.setCell {S : Nat → Prop} (w : World) (b o : Nat) (v : Value) (hb : S b) : Kp S w (w.setCell ⟨b, o, none⟩ v) :=
  ⟨rfl, rfl, rfl, by simp, fun k _ hk => heap_setCell_other w _ k _ (fun hh => hk (by subst hh; exact hb))⟩
theorem Kp.setCells {S : Nat → Prop} (b : Nat) (hb : S b) : ∀ (vs : List Value) (o : Nat) (w : World), Kp S w (w.setCells b o vs)
  | [], _, w => .refl S w
  | v :: r, o, w => (Kp.setCell w b o v hb).then (Kp.setCells b hb r (o + 1) _)
theorem Kp.setBlock {S : Nat → Prop} (w : World) (b : Nat) (o : Obj) (hb : S b) : Kp S w (setBlock w b o) :=
  ⟨rfl, rfl, rfl, by simp [ChangeMaps.setBlock], fun k _ hk => by
    unfold ChangeMaps.setBlock
    have : b ≠ k := fun e => hk (e ▸ hb)
    simp [this]⟩
theorem Kp.cell {S : Nat → Prop} {w w' : World} (h : Kp S w w') {b o : Nat} {v : Value} (hc : w.cell? ⟨b, o, none⟩ = some v) (hb : ¬ S b) : w'.cell? ⟨b, o, none⟩ = some v := by
  have hlt : b < w.heap.size := by
    unfold World.cell? at hc
    split at hc
    · rename_i he
      exact (Array.getElem?_eq_some_iff.1 he).1
    · cases hc
  rw [World.cell?_of_block (w := w) (h.block b hlt hb)]
  exact hc
theorem lt_of_cell {w : World} {b o : Nat} {v : Value} (hc : w.cell? ⟨b, o, none⟩ = some v) : b < w.heap.size := by
  unfold World.cell? at hc
  split at hc
  · rename_i he
    exact (Array.getElem?_eq_some_iff.1 he).1
  · cases hc
theorem Kp.frozen {S : Nat → Prop} {w w' : World} (h : Kp S w w') {b o : Nat} (hl : b < w.heap.size) (hb : ¬ S b) : w'.frozen? ⟨b, o, none⟩ = w.frozen? ⟨b, o, none⟩ :=
  World.frozen?_of_block (h.block b hl hb)
theorem Kp.rangeAt {S : Nat → Prop} {w w' : World} (h : Kp S w w') {b o : Nat} {cs : List Value} (hc : w.rangeAt b o cs) (hb : ¬ S b) : w'.rangeAt b o cs := fun j v hv => h.cell (hc j v hv) hb
theorem Kp.there {S : Nat → Prop} {w w' : World} (h : Kp S w w') {b o n : Nat} (hc : w.there b o n) (hb : ¬ S b) : w'.there b o n := fun j hj => by
  obtain ⟨h1, h2⟩ := hc j hj
  obtain ⟨v, hv⟩ := Option.isSome_iff_exists.1 h1
  exact ⟨by rw [h.cell hv hb]; rfl, by rw [h.frozen (lt_of_cell hv) hb]; exact h2⟩
/-- A sector's value. -/
def secV (l : List UInt8) : Value := .agg (bcs l).toArray
theorem bcs_inj : ∀ {l k : List UInt8}, bcs l = bcs k → l = k
  | [], [], _ => rfl
  | [], _ :: _, h => by simp [bcs] at h
  | _ :: _, [], h => by simp [bcs] at h
  | a :: l, b :: k, h => by
    simp only [bcs, List.map_cons, List.cons.injEq, Value.int.injEq, true_and] at h
    obtain ⟨h1, h2⟩ := h
    have e : a = b := UInt8.toNat_inj.1 (by omega)
    rw [e, bcs_inj (l := l) (k := k) h2]
theorem secV_inj {l k : List UInt8} (h : secV l = secV k) : l = k := by
  unfold secV at h
  have h1 := Value.agg.inj h
  exact bcs_inj (by simpa using congrArg Array.toList h1)
theorem Kp.drewN (S : Nat → Prop) (w : World) (n : Nat) : Kp S w (w.drewN n) := ⟨rfl, rfl, rfl, Nat.le_refl _, fun _ _ _ => rfl⟩
/-- A slice that lies among the blocks below B, of elements of one cell each. -/
def Sl {α : Type} (f : α → Value) (B : Nat) (w : World) (v : Value) (l : List α) : Prop :=
  ∃ a c, v = .slice a l.length c ∧ l.length ≤ c ∧ c ≤ maxLen ∧ ∀ i (h : i < l.length), ∃ b off, a = some ⟨b, off, none⟩ ∧ b < B ∧ w.cell? ⟨b, off + i, none⟩ = some (f l[i])
theorem Sl.nil {α : Type} (f : α → Value) (B : Nat) (w : World) : Sl f B w (.slice none 0 0) [] := ⟨none, 0, rfl, Nat.le_refl _, Nat.zero_le _, fun i h => absurd h (by simp)⟩
theorem Sl.kept {α : Type} {f : α → Value} {B : Nat} {w w' : World} {v : Value} {l : List α} {S : Nat → Prop} (h : Sl f B w v l) (hk : Kp S w w') (hS : ∀ k, k < B → ¬ S k) : Sl f B w' v l := by
  obtain ⟨a, c, rfl, h1, h2, h3⟩ := h
  refine ⟨a, c, rfl, h1, h2, fun i hi => ?_⟩
  obtain ⟨b, off, rfl, hb, c0⟩ := h3 i hi
  exact ⟨b, off, rfl, hb, hk.cell c0 (hS b hb)⟩
theorem reti {a b : Int} (h : a = b) : Ending.returned (.int .i64 a) = .returned (.int .i64 b) := by rw [h]
theorem bcs_at (l : List UInt8) (j : Nat) (h : j < l.length) : (bcs l)[j]? = some (.int .u8 (l[j].toNat : Int)) := by simp [bcs, h]
theorem infoU8 : (Try.prog.info? 5).map (fun i => (i.zero, i.size, i.bytes)) = some (some (.int .u8 0), 1, 1) := by kernel_rfl
/-- Only block b. -/
def only (b : Nat) : Nat → Prop := fun k => k = b
/-- 64 noughts. -/
def noughts : List UInt8 := List.replicate 64 0
theorem noughts_len : noughts.length = 64 := by simp [noughts]
theorem find_spec (i : Int) : ∀ (es : List MapEntry) (k : Nat), (∀ e ∈ es, ∃ z : Int, e.key = .int .i64 z) →
    (Instr.findNow (.int .i64) (.int .i64 i) es k = some none ∧ ∀ e ∈ es, e.key ≠ .int .i64 i) ∨ ∃ j e, es[j]? = some e ∧ e.key = .int .i64 i ∧ Instr.findNow (.int .i64) (.int .i64 i) es k = some (some (k + j, e.val))
  | [], k, _ => .inl ⟨rfl, by simp⟩
  | e :: es, k, h => by
    obtain ⟨z, hz⟩ := h e (by simp)
    by_cases hi : i = z
    · subst hi
      exact .inr ⟨0, e, rfl, hz, by simp [Instr.findNow, Instr.sameNow, hz]⟩
    · have hb : (i == z) = false := by simpa using hi
      rcases find_spec i es (k + 1) (fun e he => h e (by simp [he])) with ⟨h1, h2⟩ | ⟨j, e', h1, h2, h3⟩
      · refine .inl ⟨by simp [Instr.findNow, Instr.sameNow, hz, hb, h1], ?_⟩
        intro e' he'
        rcases List.mem_cons.1 he' with rfl | he'
        · rw [hz]
          intro hc
          exact hi (by cases hc; rfl)
        · exact h2 e' he'
      · exact .inr ⟨j + 1, e', by simpa using h1, h2, by simp [Instr.findNow, Instr.sameNow, hz, hb, h3]; omega⟩
theorem run_check (b : Bool) (i : Int) (w : World) : (Instr.checkKey b 10000 3 (.int .i64 i)).run Try.prog w = .ok () w := by
  show (Instr.checkKey b (9999 + 1) 3 (.int .i64 i)).run Try.prog w = .ok () w
  unfold Instr.checkKey
  rw [Sem.run_bind, run_underlying Try.underlying3 w]
  rfl
theorem wpList_copy_at {P : Program} (w : World) {ops : Array Oper} {rest : List Oper} {o : Oper} {a : Act} {Q : Exit → Act → World → Prop} (hgd : o.guard = none) (d s : Operand) (t t' : TypeId)
    (ho : o.op = .call { callee := .builtin .copy, args := #[d, s], argTypes := #[t, t'] }) (v u : Value) (hd : a.eval d = v) (hs : a.eval s = u) {v' : Value} {w' : World}
    (hr : (Builtin.copy_ #[t, t'] o.type #[v, u]).run P w = .ok v' w') (h : wpList P ops Q rest (a.put o.dst v') w') : wpList P ops Q (o :: rest) a w :=
  wpList_plain hgd fun _ hK => by
    unfold Oper.wp execOp
    simp only [ho, resolve, invoke, builtin, Sem.run_bind, Sem.run_pure, Result.andThen_ok, List.map_toArray, List.map_cons, List.map_nil, hd, hs, hr]
    exact hK _ _ h
/-- A sector's bytes of a text. -/
def whole (l : List UInt8) : List UInt8 := (l ++ noughts).take 64
theorem whole_len (l : List UInt8) : (whole l).length = 64 := by simp [whole, noughts_len]
theorem take_bcs (s : ByteArray) (h : s.size ≤ 64) : (((bcs noughts).toArray.toList.take 0 ++ Lib.byteCells s.data.toList ++ (bcs noughts).toArray.toList.drop (0 + s.size)).toArray : Array Value) = (bcs (whole s.data.toList)).toArray := by
  have hl : s.data.toList.length = s.size := by rw [Array.length_toList]; rfl
  have e : whole s.data.toList = s.data.toList ++ noughts.drop s.size := by
    unfold whole
    rw [List.take_append, List.take_of_length_le (by omega), hl]
    congr 1
    unfold noughts
    rw [List.take_replicate, List.drop_replicate]
    congr 1
    omega
  rw [e, bcs_append]
  simp [bcs, Lib.byteCells, List.map_drop]
theorem wpList_make_at {P : Program} {w : World} {ops : Array Oper} {rest : List Oper} {o : Oper} {a : Act} {Q : Exit → Act → World → Prop} (hgd : o.guard = none) (l c : Operand) (t : TypeId) (ho : o.op = .makeSlice t l c)
    (v u : Value) (hd : a.eval l = v) (hs : a.eval c = u) {v' : Value} {w' : World} (hr : (Instr.makeSlice t v u).run P w = .ok v' w') (h : wpList P ops Q rest (a.put o.dst v') w') : wpList P ops Q (o :: rest) a w :=
  wpList_plain hgd fun _ hK => by
    unfold Oper.wp execOp
    simp only [ho, Sem.run_bind, Sem.run_pure, Result.andThen_ok, hd, hs, hr]
    exact hK _ _ h
/-- A slice of the call's own, of elements of one cell each. -/
def Ow {α : Type} (f : α → Value) (e : TypeId) (w : World) (base : Nat) (v : Value) (l : List α) : Prop := w.ownsRow base e 1 v l.length (l.map f)
theorem Ow.nil {α : Type} (f : α → Value) (e : TypeId) (w : World) (base : Nat) : Ow f e w base (.slice none 0 0) [] := World.ownsRow_nil w base e 1
theorem Ow.shape {α : Type} {f : α → Value} {e : TypeId} {w : World} {base : Nat} {v : Value} {l : List α} (h : Ow f e w base v l) : (v = .slice none 0 0 ∧ l = []) ∨
    ∃ g cap, v = .slice (some ⟨g, 0, none⟩) l.length cap ∧ base ≤ g ∧ g < w.heap.size ∧ (∀ j (hj : j < l.length), w.cell? ⟨g, j, none⟩ = some (f l[j])) := by
  have h' := h
  rcases h.2 with ⟨rfl, h0⟩ | ⟨g, cap, cur, rfl, hb, hg, _⟩
  · exact .inl ⟨rfl, List.eq_nil_of_length_eq_zero h0⟩
  · refine .inr ⟨g, cap, rfl, hb, (Array.getElem?_eq_some_iff.1 hg).1, fun j hj => ?_⟩
    have hc := World.ownsRow.cellAt (g := g) (cap := cap) h' j (by omega)
    rw [hc]
    simp [hj]
theorem Ow.kept {α : Type} {f : α → Value} {e : TypeId} {w w' : World} {base : Nat} {v : Value} {l : List α} {S : Nat → Prop} (h : Ow f e w base v l) (hk : Kp S w w') (hS : ∀ k, v.ownBlock = some k → ¬ S k) : Ow f e w' base v l := by
  rcases h.2 with ⟨rfl, h0⟩ | ⟨g, cap, cur, rfl, hb, hg, h1, h2, h3, h4⟩
  · exact ⟨h.1, .inl ⟨rfl, h0⟩⟩
  · have hlt : g < w.heap.size := (Array.getElem?_eq_some_iff.1 hg).1
    exact ⟨h.1, .inr ⟨g, cap, cur, rfl, hb, by rw [hk.block g hlt (hS g rfl)]; exact hg, h1, h2, h3, h4⟩⟩
theorem Ow.lt {α : Type} {f : α → Value} {e : TypeId} {w : World} {base : Nat} {v : Value} {l : List α} (h : Ow f e w base v l) : ∀ k, v.ownBlock = some k → base ≤ k ∧ k < w.heap.size := World.ownsRow.lt h
theorem src_cell {P : Program} (w : World) (t e : TypeId) (ht : P.underlying t = some (.slice e)) (x : Value) (hx : x.oneCell' = true) (g : Nat) (hg : w.heap.size = g) : Src P 1 t (.slice (some ⟨g, 0, none⟩) 1 1) 1 [x] (w.alloc (.cells #[x] e)) := by
  subst hg
  refine Src.ofSlice (e' := e) _ ht ⟨w.heap.size, 0, none⟩ 1 1 [x] (by simp) ?_ (by intro u hu; simp at hu; subst hu; exact hx)
  intro j u hj
  match j, hj with
  | 0, hj => simp at hj; subst hj; simp [Addr.add]
  | (j + 1), hj => simp at hj
theorem infoI : (Try.prog.info? 3).map (fun i => (i.zero, i.size, i.bytes)) = some (some (.int .i64 0), 1, 8) := by kernel_rfl
theorem hide {p : Prop} (h : p) : Hid p := h
theorem Ow.open {α : Type} {f : α → Value} {e : TypeId} {w : World} {base : Nat} {v : Value} {l : List α} (h : Ow f e w base v l) : ∃ a c, v = .slice a l.length c ∧ ∀ j (hj : j < l.length), ∃ g, a = some ⟨g, 0, none⟩ ∧ base ≤ g ∧ w.cell? ⟨g, j, none⟩ = some (f l[j]) := by
  rcases h.shape with ⟨rfl, rfl⟩ | ⟨g, cap, rfl, hb, _, hc⟩
  · exact ⟨none, 0, rfl, fun j hj => absurd hj (by simp)⟩
  · exact ⟨some ⟨g, 0, none⟩, cap, rfl, fun j hj => ⟨g, rfl, hb, hc j hj⟩⟩
theorem Ow.stored {α : Type} {f : α → Value} {e : TypeId} {w : World} {base g n cap : Nat} {l : List α} (h : Ow f e w base (.slice (some ⟨g, 0, none⟩) n cap) l) (j : Nat) (c : α) :
    Ow f e (w.setCell ⟨g, j, none⟩ (f c)) base (.slice (some ⟨g, 0, none⟩) n cap) (l.set j c) ∧ w.grownBy (w.setCell ⟨g, j, none⟩ (f c)) (some g) := by
  have hn : n = l.length := by
    rcases h.2 with ⟨h1, _⟩ | ⟨g', cap', cur, h1, _⟩
    · cases h1
    · cases h1; rfl
  subst hn
  have h2 := World.ownsRow.stored (g := g) (cap := cap) h j (f c)
  refine ⟨?_, h2.2⟩
  have e1 : (l.set j c).map f = (l.map f).set j (f c) := by simp [List.map_set]
  unfold Ow
  rw [e1, List.length_set]
  exact h2.1
theorem whole_short (l : List UInt8) (h : l.length ≤ 64) : whole l = l ++ noughts.drop l.length := by
  unfold whole
  rw [List.take_append, List.take_of_length_le h]
  congr 1
  unfold noughts
  rw [List.take_replicate, List.drop_replicate]
  congr 1
  omega
theorem whole_step (l : List UInt8) (j : Nat) (h : j < l.length) (hj : j < 64) : (whole (l.take j)).set j l[j] = whole (l.take (j + 1)) := by
  have h1 : (l.take j).length = j := by rw [List.length_take]; omega
  have h2 : (l.take (j + 1)).length = j + 1 := by rw [List.length_take]; omega
  rw [whole_short _ (by omega), whole_short _ (by omega), h1, h2, List.set_append_right _ _ (by omega), h1, Nat.sub_self]
  have e : noughts.drop j = 0 :: noughts.drop (j + 1) := by
    rw [List.drop_eq_getElem_cons (by rw [noughts_len]; exact hj)]
    congr 1
    unfold noughts
    exact List.getElem_replicate _
  rw [e, List.set_cons_zero, List.take_succ_eq_append_getElem h, List.append_assoc]
  rfl
theorem whole_take (l : List UInt8) : whole (l.take 64) = whole l := by
  unfold whole
  rw [List.take_append, List.take_append, List.take_take, Nat.min_self, List.length_take]
  congr 2
  omega
theorem Ow.sl {α : Type} {f : α → Value} {e : TypeId} {w : World} {base : Nat} {v : Value} {l : List α} (h : Ow f e w base v l) : Sl f w.heap.size w v l := by
  have h' := h
  rcases h.2 with ⟨rfl, h0⟩ | ⟨g, cap, cur, rfl, hb, hg, h1, h2, _⟩
  · have : l = [] := List.eq_nil_of_length_eq_zero h0
    subst this
    exact Sl.nil _ _ _
  · refine ⟨some ⟨g, 0, none⟩, cap, rfl, h1, h2, fun j hj => ⟨g, 0, rfl, (Array.getElem?_eq_some_iff.1 hg).1, ?_⟩⟩
    have hc := World.ownsRow.cellAt (g := g) (cap := cap) h' j (by omega)
    rw [Nat.zero_add, hc]
    simp [hj]
theorem Sl.keptN {α : Type} {f : α → Value} {B : Nat} {w w' : World} {v : Value} {l : List α} (h : Sl f B w v l) (hk : Kp none' w w') : Sl f B w' v l := h.kept hk (fun _ _ h => h)
theorem Ow.keptN {α : Type} {f : α → Value} {e : TypeId} {w w' : World} {base : Nat} {v : Value} {l : List α} (h : Ow f e w base v l) (hk : Kp none' w w') : Ow f e w' base v l := h.kept hk (fun _ _ h => h)
end Go.Proofs.Ytamgnpmkmlhadaa

namespace Go.Proofs.Ytamgnpmkmlhadaa
open Go.RowKit
set_option linter.unusedVariables false

def wid (k : Int) : Nat := if k < 1 then 1 else if 8 < k then 8 else k.toNat
theorem wid_lo (k : Int) : 1 ≤ wid k := by unfold wid; split <;> (try split) <;> omega
theorem wid_hi (k : Int) : wid k ≤ 8 := by unfold wid; split <;> (try split) <;> omega

set_option maxHeartbeats 400000 in
theorem width_any (k : Int) (w : World) :
    Calls Try.prog 43 #[.int .i64 k] w fun e w' => e = .returned (.int .i64 (wid k : Int)) ∧ w' = w := by
  by_cases h1 : k < 1
  · have hw : ((wid k : Nat) : Int) = 1 := by unfold wid; simp [h1]
    rw [hw]
    clear hw
    go_enter Try.func43, Try.ntmps43
    go_wp2
    go_ret
    exact ⟨rfl, rfl⟩
  · by_cases h8 : 8 < k
    · have hw : ((wid k : Nat) : Int) = 8 := by unfold wid; simp [h1, h8]
      rw [hw]
      clear hw
      go_enter Try.func43, Try.ntmps43
      go_wp2
      go_ret
      exact ⟨rfl, rfl⟩
    · have hw : ((wid k : Nat) : Int) = k := by unfold wid; simp [h1, h8]; omega
      rw [hw]
      clear hw
      go_enter Try.func43, Try.ntmps43
      go_wp2
      go_ret
      exact ⟨rfl, rfl⟩

theorem Try.info5 : (Try.prog.info? 5).map (fun i => (i.zero, i.size, i.bytes)) = some (some (.int .u8 0), 1, 1) := by kernel_rfl

/-- The low m bytes of n, the highest first. -/
def be (n : Nat) : Nat → List UInt8
  | 0 => []
  | m + 1 => UInt8.ofNat (n / 2 ^ (8 * m)) :: be n m
theorem be_len (n m : Nat) : (be n m).length = m := by
  induction m with
  | zero => rfl
  | succ m ih => simp [be, ih]
theorem be_val (n m : Nat) : (n : Int) / 2 ^ (8 * m) % 256 = ((UInt8.ofNat (n / 2 ^ (8 * m))).toNat : Int) := by
  rw [UInt8.toNat_ofNat']
  simp

set_option maxRecDepth 100000 in
set_option maxHeartbeats 400000 in
theorem num_any (v : Value) (l : List UInt8) (n : Nat) (k : Int) (base : Nat) (w : World) (hn : (n : Int) < 18446744073709551616) (hown : Own 5 w base v l) (hb : base ≤ w.heap.size) (hl : l.length ≤ 140737488355300) :
    Calls Try.prog 29 #[v, .int .u64 n, .int .i64 k] w fun e w' => ∃ v', e = .returned v' ∧ Own 5 w' base v' (l ++ be n (wid k)) ∧ Fr w v w' v' := by
  have hlo := wid_lo k
  have hhi := wid_hi k
  obtain ⟨i0, hi, hz0, hz1, hz2⟩ := info_parts Try.info5
  have Hl : Hid (l.length ≤ 140737488355300) := hl
  have Hn : Hid ((n : Int) < 18446744073709551616) := hn
  clear hl hn
  go_enter Try.func29, Try.ntmps29
  go_wp2_with (go_at_call 43; refine (width_any _ _).mono ?_; rintro e w' ⟨rfl, hw⟩; rw [hw]; clear hw w')
  go_loopw [0, 7] (fun b i wr => ∃ j : Nat, j ≤ wid k ∧ i = .int .i64 ((j : Int) - 1) ∧ ∃ pre : List UInt8, Own 5 wr base b (l ++ pre) ∧ Hid (pre ++ be n j = be n (wid k)) ∧ Fr w v wr b) (fun _ i _ => (intOf i + 1).toNat)
  case atStart => exact ⟨wid k, Nat.le_refl _, rfl, [], by simpa using hown, rfl, Fr.refl _ _⟩
  case round =>
    obtain ⟨j, hj, rfl, pre, ho, Hp, hf⟩ := hrel
    have hbw : base ≤ wr.heap.size := Nat.le_trans hb hf.1.size
    clear hown
    rcases Nat.eq_zero_or_pos j with h0 | h0
    · subst h0
      have Hr : Own 5 wr base u0 (l ++ be n (wid k)) := by have := Hp.out; simp only [be, List.append_nil] at this; rw [← this]; exact ho
      go_wp2
      go_ret
      exact ⟨_, rfl, Hr, hf⟩
    · obtain ⟨m, rfl⟩ : ∃ m, j = m + 1 := ⟨j - 1, by omega⟩
      have hm : m ≤ 7 := by omega
      have em : ((m + 1 : Nat) : Int) - 1 = (m : Int) := by omega
      rw [em]
      have hpl : pre.length ≤ 8 := by have := congrArg List.length Hp.out; rw [List.length_append, be_len, be_len] at this; omega
      clear em h0
      have hm0 : (0 : Int) ≤ (m : Int) := by omega
      have hm1 : (m : Int) ≤ 7 := by omega
      have hlen : (l ++ pre).length + 1 ≤ 140737488355328 := by have := Hl.out; rw [List.length_append]; omega
      have Hlen : Hid ((l ++ pre).length + 1 ≤ 140737488355328) := hlen
      clear hlen
      go_wp2_with (at_builtin; refine wpList_append_bytes _ rfl (.tmp 15) (.tmp 21) 58 58 rfl base 5 i0 Try.underlying58 hi hz0 hz1 hz2 u0 _ rfl (ho.alloc _) _ [UInt8.ofNat (n / 2 ^ (8 * m))] rfl (src_one wr 58 5 Try.underlying58 _ _ (be_val n m)) Hlen.out (by simp; omega) ?_; intro v' w1 ho' hg' hv')
      go_roundw
      case rel =>
        refine ⟨m, by omega, rfl, pre ++ [UInt8.ofNat (n / 2 ^ (8 * m))], by simpa using ho', ?_, ?_⟩
        · have := Hp.out
          simp only [be] at this
          show _ = _
          rw [← this]
          simp
        · exact (hf.alloc _).step hg' (by simpa using hv')
      case measure => simp [intOf]

end Go.Proofs.Ytamgnpmkmlhadaa

namespace Go.Proofs.Ytamgnpmkmlhadaa
open Go.RowKit
set_option linter.unusedVariables false

/-- A reader in block b: the bytes s that are left, the first error e. -/
def Rd (w : World) (b : Nat) (s : ByteArray) (e : Int) : Prop := w.heap[b]? = some (.cells #[.string s, .int .i64 e] 83 (0, 0))
theorem Rd.c0 {w : World} {b : Nat} {s : ByteArray} {e : Int} (h : Rd w b s e) : w.cell? ⟨b, 0, none⟩ = some (.string s) := by
  rw [cell_of_row w b 0 _ 83 (0, 0) h]; rfl
theorem Rd.c1 {w : World} {b : Nat} {s : ByteArray} {e : Int} (h : Rd w b s e) : w.cell? ⟨b, 1, none⟩ = some (.int .i64 e) := by
  rw [cell_of_row w b 1 _ 83 (0, 0) h]; rfl
theorem Rd.fz {w : World} {b : Nat} {s : ByteArray} {e : Int} (h : Rd w b s e) (j : Nat) : w.frozen? ⟨b, j, none⟩ = false := by
  unfold World.frozen?
  rw [show w.heap[(⟨b, j, none⟩ : Addr).block]? = _ from h]
  simp
theorem Rd.lt {w : World} {b : Nat} {s : ByteArray} {e : Int} (h : Rd w b s e) : b < w.heap.size := (Array.getElem?_eq_some_iff.1 h).1
theorem Rd.kept {w w' : World} {b : Nat} {s : ByteArray} {e : Int} {row : Option Nat} (h : Rd w b s e) (hg : w.grownBy w' row) (hne : some b ≠ row) : Rd w' b s e := by
  unfold Rd
  rw [hg.block b h.lt hne]
  exact h
theorem Rd.new (w : World) (s : ByteArray) (e : Int) : Rd (w.alloc (.cells #[.string s, .int .i64 e] 83)) w.heap.size s e := heap_alloc_new w _

set_option maxHeartbeats 400000 in
theorem err_nil (w : World) : Calls Try.prog 65 #[.pointer none] w fun e w' => e = .returned (.int .i64 1) ∧ w' = w := by
  go_enter Try.func65, Try.ntmps65
  go_wp2
  go_ret
  exact ⟨rfl, rfl⟩
set_option maxHeartbeats 400000 in
theorem left_nil (w : World) : Calls Try.prog 50 #[.pointer none] w fun e w' => e = .returned (.int .i64 0) ∧ w' = w := by
  go_enter Try.func50, Try.ntmps50
  go_wp2
  go_ret
  exact ⟨rfl, rfl⟩
set_option maxHeartbeats 400000 in
theorem stopped_nil (w : World) : Calls Try.prog 58 #[.pointer none] w fun e w' => e = .returned (.bool true) ∧ w' = w := by
  go_enter Try.func58, Try.ntmps58
  go_wp2
  go_ret
  exact ⟨rfl, rfl⟩
set_option maxHeartbeats 400000 in
theorem raw_nil (k : Int) (w : World) : Calls Try.prog 49 #[.pointer none, .int .i64 k] w fun e w' => e = .returned (.string ByteArray.empty) ∧ w' = w := by
  go_enter Try.func49, Try.ntmps49
  go_wp2
  go_ret
  exact ⟨rfl, rfl⟩
set_option maxHeartbeats 400000 in
theorem rstr_nil (k : Int) (w : World) : Calls Try.prog 64 #[.pointer none, .int .i64 k] w fun e w' => e = .returned (.string ByteArray.empty) ∧ w' = w := by
  go_enter Try.func64, Try.ntmps64
  go_wp2
  go_ret
  exact ⟨rfl, rfl⟩

set_option maxHeartbeats 400000 in
theorem err_any (b : Nat) (s : ByteArray) (e : Int) (w : World) (h : Rd w b s e) :
    Calls Try.prog 65 #[.pointer (some ⟨b, 0, none⟩)] w fun x w' => x = .returned (.int .i64 e) ∧ w' = w := by
  have h0 := h.c0
  have h1 := h.c1
  go_enter Try.func65, Try.ntmps65
  go_wp2
  go_ret
  exact ⟨rfl, rfl⟩
set_option maxHeartbeats 400000 in
theorem left_any (b : Nat) (s : ByteArray) (e : Int) (w : World) (h : Rd w b s e) :
    Calls Try.prog 50 #[.pointer (some ⟨b, 0, none⟩)] w fun x w' => x = .returned (.int .i64 s.size) ∧ w' = w := by
  have h0 := h.c0
  have h1 := h.c1
  go_enter Try.func50, Try.ntmps50
  go_wp2
  go_ret
  exact ⟨rfl, rfl⟩
set_option maxHeartbeats 400000 in
theorem stopped_any (b : Nat) (s : ByteArray) (e : Int) (w : World) (h : Rd w b s e) :
    Calls Try.prog 58 #[.pointer (some ⟨b, 0, none⟩)] w fun x w' => x = .returned (.bool (e != 0)) ∧ w' = w := by
  go_enter Try.func58, Try.ntmps58
  go_wp2_with (go_at_call 65; refine (err_any _ _ _ _ h).mono ?_; rintro x w' ⟨rfl, rfl⟩)
  go_ret
  exact ⟨rfl, rfl⟩
def doneE (s : ByteArray) (e : Int) : Int := if e = 0 ∧ s.size ≠ 0 then 5 else e
set_option maxHeartbeats 400000 in
theorem fail_any (b : Nat) (s : ByteArray) (e x : Int) (w : World) (h : Rd w b s e) :
    Calls Try.prog 59 #[.pointer (some ⟨b, 0, none⟩), .int .i64 x] w fun y w' => y = .returned (.string ByteArray.empty) ∧ w' = w.setCell ⟨b, 1, none⟩ (.int .i64 x) := by
  have h0 := h.c0
  have h1 := h.c1
  have hz := h.fz 1
  go_enter Try.func59, Try.ntmps59
  go_wp2
  go_ret
  exact ⟨rfl, rfl⟩
set_option maxHeartbeats 400000 in
theorem step_any (b : Nat) (s : ByteArray) (e : Int) (k : Nat) (w : World) (h : Rd w b s e) (hk : k ≤ s.size) (hs : s.size ≤ maxLen) :
    Calls Try.prog 60 #[.pointer (some ⟨b, 0, none⟩), .int .i64 k] w fun y w' => y = .returned (.string (s.extract 0 k)) ∧ w' = w.setCell ⟨b, 0, none⟩ (.string (s.extract k s.size)) := by
  have h0 := h.c0
  have h1 := h.c1
  have hz := h.fz 0
  unfold maxLen at hs
  go_enter Try.func60, Try.ntmps60
  go_wp2
  go_ret
  exact ⟨rfl, rfl⟩
theorem step_one (b : Nat) (s : ByteArray) (e : Int) (n : Nat) (w : World) (h : Rd w b s e) (hk : n < s.size) (hs : s.size ≤ maxLen) :
    Calls Try.prog 60 #[.pointer (some ⟨b, 0, none⟩), .int .i64 (1 + (n : Int))] w fun y w' => y = .returned (.string (s.extract 0 (1 + n))) ∧ w' = w.setCell ⟨b, 0, none⟩ (.string (s.extract (1 + n) s.size)) := by
  have := step_any b s e (1 + n) w h (by omega) hs
  rw [show ((1 + n : Nat) : Int) = 1 + (n : Int) from by omega] at this
  exact this
set_option maxHeartbeats 400000 in
theorem from_any (s : ByteArray) (w : World) :
    Calls Try.prog 34 #[.string s] w fun y w' => y = .returned (.pointer (some ⟨w.heap.size, 0, none⟩)) ∧ w' = w.alloc (.cells #[.string s, .int .i64 0] 83) := by
  go_enter Try.func34, Try.ntmps34
  go_wp2
  go_ret
  exact ⟨rfl, rfl⟩
def fitsB (n : Nat) (k : Int) : Bool := decide (n < 2 ^ (8 * wid k))
theorem fits_eq (n : Nat) (k : Int) : ((n : Int) / 2 ^ (8 * wid k) == 0) = fitsB n k := by
  unfold fitsB
  rw [Bool.eq_iff_iff, beq_iff_eq, decide_eq_true_iff]
  have h2 : 0 < 2 ^ (8 * wid k) := Nat.two_pow_pos _
  have e : (n : Int) / 2 ^ (8 * wid k) = ((n / 2 ^ (8 * wid k) : Nat) : Int) := by simp
  rw [e]
  constructor
  · intro h
    have h' : n / 2 ^ (8 * wid k) = 0 := by omega
    exact (Nat.div_eq_zero_iff_lt h2).1 h'
  · intro h
    rw [Nat.div_eq_of_lt h]
    rfl
set_option maxHeartbeats 400000 in
theorem fits_any (n : Nat) (k : Int) (w : World) (hn : (n : Int) < 18446744073709551616) :
    Calls Try.prog 42 #[.int .u64 n, .int .i64 k] w fun y w' => y = .returned (.bool (fitsB n k)) ∧ w' = w := by
  have hlo := wid_lo k
  have hhi := wid_hi k
  have Hn : Hid ((n : Int) < 18446744073709551616) := hn
  clear hn
  go_enter Try.func42, Try.ntmps42
  go_wp2_with (go_at_call 43; refine (width_any _ _).mono ?_; rintro e w' ⟨rfl, rfl⟩)
  go_ret
  exact ⟨congrArg (fun x => Ending.returned (Value.bool x)) (fits_eq n k), rfl⟩

theorem Rd.set1 {w : World} {b : Nat} {s : ByteArray} {e : Int} (h : Rd w b s e) (x : Int) : Rd (w.setCell ⟨b, 1, none⟩ (.int .i64 x)) b s x ∧ w.grownBy (w.setCell ⟨b, 1, none⟩ (.int .i64 x)) (some b) := by
  refine ⟨?_, ⟨rfl, rfl, rfl, by simp, fun k _ hk => heap_setCell_other w _ k _ (fun hb => hk (by simp [hb]))⟩⟩
  unfold Rd
  rw [heap_setCell_same w b 1 _ 83 _ h]
  rfl
theorem Rd.set0 {w : World} {b : Nat} {s : ByteArray} {e : Int} (h : Rd w b s e) (x : ByteArray) : Rd (w.setCell ⟨b, 0, none⟩ (.string x)) b x e ∧ w.grownBy (w.setCell ⟨b, 0, none⟩ (.string x)) (some b) := by
  refine ⟨?_, ⟨rfl, rfl, rfl, by simp, fun k _ hk => heap_setCell_other w _ k _ (fun hb => hk (by simp [hb]))⟩⟩
  unfold Rd
  rw [heap_setCell_same w b 0 _ 83 _ h]
  rfl

/-- What Raw answers, what is left, the error: of the bytes s, the error e, and k. -/
def rawR (s : ByteArray) (e k : Int) : ByteArray := if e ≠ 0 ∨ k < 0 ∨ (s.size : Int) < k then ByteArray.empty else s.extract 0 k.toNat
def rawS (s : ByteArray) (e k : Int) : ByteArray := if e ≠ 0 ∨ k < 0 ∨ (s.size : Int) < k then s else s.extract k.toNat s.size
def rawE (s : ByteArray) (e k : Int) : Int := if e ≠ 0 then e else if (s.size : Int) < k then 2 else 0

set_option maxHeartbeats 400000 in
theorem raw_any (b : Nat) (s : ByteArray) (e k : Int) (w : World) (h : Rd w b s e) (hs : s.size ≤ maxLen) :
    Calls Try.prog 49 #[.pointer (some ⟨b, 0, none⟩), .int .i64 k] w fun y w' => y = .returned (.string (rawR s e k)) ∧ Rd w' b (rawS s e k) (rawE s e k) ∧ w.grownBy w' (some b) := by
  have h0 := h.c0
  have h1 := h.c1
  by_cases he : e = 0
  · subst he
    by_cases hk : k < 0
    · have e1 : rawR s 0 k = ByteArray.empty := by simp [rawR, hk]
      have e2 : rawS s 0 k = s := by simp [rawS, hk]
      have e3 : rawE s 0 k = 0 := by unfold rawE; simp; omega
      rw [e1, e2, e3]
      clear e1 e2 e3
      go_enter Try.func49, Try.ntmps49
      go_wp2_with (go_at_call 58; refine (stopped_any _ _ _ _ h).mono ?_; rintro x w' ⟨rfl, rfl⟩)
      go_ret
      exact ⟨rfl, h, World.grownBy.refl _ _⟩
    · by_cases hl : (s.size : Int) < k
      · have e1 : rawR s 0 k = ByteArray.empty := by simp [rawR, hl]
        have e2 : rawS s 0 k = s := by simp [rawS, hl]
        have e3 : rawE s 0 k = 2 := by simp [rawE, hl]
        rw [e1, e2, e3]
        clear e1 e2 e3
        go_enter Try.func49, Try.ntmps49
        go_wp2_with (first | (go_at_call 58; refine (stopped_any _ _ _ _ h).mono ?_; rintro x w' ⟨rfl, rfl⟩) | (go_at_call 59; refine (fail_any _ _ _ _ _ h).mono ?_; rintro x w' ⟨rfl, rfl⟩))
        go_ret
        exact ⟨rfl, (h.set1 2).1, (h.set1 2).2⟩
      · obtain ⟨m, rfl⟩ := Int.eq_ofNat_of_zero_le (by omega : 0 ≤ k)
        have hm : m ≤ s.size := by omega
        have e1 : rawR s 0 m = s.extract 0 m := by unfold rawR; rw [if_neg (by omega)]; simp
        have e2 : rawS s 0 m = s.extract m s.size := by unfold rawS; rw [if_neg (by omega)]; simp
        have e3 : rawE s 0 m = 0 := by unfold rawE; simp; omega
        rw [e1, e2, e3]
        clear e1 e2 e3
        go_enter Try.func49, Try.ntmps49
        go_wp2_with (first | (go_at_call 58; refine (stopped_any _ _ _ _ h).mono ?_; rintro x w' ⟨rfl, rfl⟩) | (go_at_call 60; refine (step_any _ _ _ m _ h hm hs).mono ?_; rintro x w' ⟨rfl, rfl⟩))
        go_ret
        exact ⟨rfl, (h.set0 _).1, (h.set0 _).2⟩
  · have e1 : rawR s e k = ByteArray.empty := by simp [rawR, he]
    have e2 : rawS s e k = s := by simp [rawS, he]
    have e3 : rawE s e k = e := by simp [rawE, he]
    rw [e1, e2, e3]
    have he' : (e != 0) = true := by simp [he]
    clear e1 e2 e3 he
    go_enter Try.func49, Try.ntmps49
    go_wp2_with (go_at_call 58; refine (stopped_any _ _ _ _ h).mono ?_; rintro x w' ⟨rfl, rfl⟩)
    go_ret
    exact ⟨rfl, h, World.grownBy.refl _ _⟩

/-- The number that bytes are. -/
def val (l : List UInt8) : Nat := l.foldl (fun a b => a * 256 + b.toNat) 0
theorem val_snoc (l : List UInt8) (c : UInt8) : val (l ++ [c]) = val l * 256 + c.toNat := by simp [val]
theorem fold_lt (l : List UInt8) : ∀ a : Nat, l.foldl (fun a b => a * 256 + b.toNat) a < (a + 1) * 256 ^ l.length := by
  induction l with
  | nil => intro a; simp
  | cons c l ih =>
    intro a
    have h := ih (a * 256 + c.toNat)
    have hc := c.toNat_lt
    have h2 : (a * 256 + c.toNat + 1) * 256 ^ l.length ≤ ((a + 1) * 256) * 256 ^ l.length := Nat.mul_le_mul_right _ (by omega)
    simp only [List.foldl_cons, List.length_cons, Nat.pow_succ]
    refine Nat.lt_of_lt_of_le h (Nat.le_trans h2 (Nat.le_of_eq ?_))
    rw [Nat.mul_assoc, Nat.mul_comm 256]
theorem val_lt (l : List UInt8) : val l < 256 ^ l.length := by have := fold_lt l 0; simpa [val] using this
theorem take_snoc (s : ByteArray) (k : Nat) (h : k < s.size) : s.data.toList.take (k + 1) = s.data.toList.take k ++ [s[k]] := by
  rw [List.take_succ_eq_append_getElem (by simpa using h)]; rfl
theorem or_step (x : Nat) (c : UInt8) (hx : x < 72057594037927936) : bits .or .u64 (IntKind.u64.wrap ((x : Int) * 256)) (IntKind.u64.wrap (c.toNat : Int)) = ((x * 256 + c.toNat : Nat) : Int) := by
  have hc := c.toNat_lt
  have e1 : IntKind.u64.wrap ((x : Int) * 256) = ((x * 256 : Nat) : Int) := by rw [IntKind.wrap_u64]; omega
  have e2 : IntKind.u64.wrap (c.toNat : Int) = (c.toNat : Int) := by rw [IntKind.wrap_u64]; omega
  rw [e1, e2, u64_or_nat _ _ (by omega) (by omega), nat_join 8 (x * 256) c.toNat (by omega) (by omega)]
theorem rawR_size (s : ByteArray) (e k : Int) : ((rawR s e k).size : Int) ≤ k ∨ (rawR s e k).size = 0 := by
  unfold rawR
  split
  · exact .inr rfl
  · left; rw [ByteArray.size_extract]; omega

set_option maxRecDepth 100000 in
set_option maxHeartbeats 400000 in
theorem rnum_any (b : Nat) (s : ByteArray) (e k : Int) (w : World) (h : Rd w b s e) (hs : s.size ≤ maxLen) :
    Calls Try.prog 47 #[.pointer (some ⟨b, 0, none⟩), .int .i64 k] w fun y w' => y = .returned (.int .u64 (val (rawR s e (wid k)).data.toList)) ∧ Rd w' b (rawS s e (wid k)) (rawE s e (wid k)) ∧ w.grownBy w' (some b) := by
  have hlo := wid_lo k
  have hhi := wid_hi k
  obtain ⟨r, hr⟩ : ∃ r, r = rawR s e (wid k) := ⟨_, rfl⟩
  have hrs : r.size ≤ 8 := by rw [hr]; have := rawR_size s e (wid k); omega
  rw [← hr]
  have Hr : Hid (r = rawR s e (wid k)) := hr
  clear hr
  go_enter Try.func47, Try.ntmps47
  go_wp2_with (first | (go_at_call 43; refine (width_any _ _).mono ?_; rintro e w' ⟨rfl, rfl⟩) | (go_at_call 49; refine (raw_any _ _ _ _ _ h hs).mono ?_; rintro x w1 ⟨rfl, hR, hG⟩; rw [← Hr.out]))
  go_loop [5, 14] (fun n i => ∃ j : Nat, j ≤ r.size ∧ i = .int .i64 j ∧ n = .int .u64 (val (r.data.toList.take j))) (fun _ i => r.size - (intOf i).toNat)
  case atStart => exact ⟨0, Nat.zero_le _, rfl, rfl⟩
  case round =>
    obtain ⟨j, hj, rfl, rfl⟩ := hrel
    by_cases hlt : j < r.size
    · have Ht : Hid (val (r.data.toList.take (j + 1)) = val (r.data.toList.take j) * 256 + r[j].toNat) := by rw [take_snoc r j hlt]; exact val_snoc _ _
      have Hx : Hid (val (r.data.toList.take j) < 72057594037927936) := by
        have h1 := val_lt (r.data.toList.take j)
        have h2 : (r.data.toList.take j).length ≤ 7 := by simp; omega
        exact Nat.lt_of_lt_of_le h1 (Nat.le_trans (Nat.pow_le_pow_right (by omega) h2) (by omega))
      go_wp2
      go_round
      case rel => exact ⟨j + 1, by omega, by go_num, by rw [or_step _ _ Hx.out, Ht.out]⟩
      case measure => simp [intOf]; omega
    · have Ht : Hid (r.data.toList.take j = r.data.toList) := List.take_of_length_le (by simp; omega)
      go_wp2
      go_ret
      exact ⟨congrArg (fun l => Ending.returned (Value.int .u64 ((val l : Nat) : Int))) Ht.out, hR, hG⟩

/-- What Str answers, what is left, the error. -/
def strN (s : ByteArray) : Nat := s.data.toList.headD 0 |>.toNat
def strOk (s : ByteArray) (e most : Int) : Bool := decide (e = 0 ∧ 0 < s.size ∧ (strN s : Int) ≤ most ∧ strN s < s.size)
def strR (s : ByteArray) (e most : Int) : ByteArray := if strOk s e most then s.extract 1 (1 + strN s) else ByteArray.empty
def strS (s : ByteArray) (e most : Int) : ByteArray := if strOk s e most then s.extract (1 + strN s) s.size else s
def strE (s : ByteArray) (e most : Int) : Int := if e ≠ 0 then e else if s.size = 0 then 2 else if most < (strN s : Int) then 3 else if s.size ≤ strN s then 2 else 0
theorem strN_eq (s : ByteArray) (h : 0 < s.size) : (s[0].toNat : Int) = (strN s : Int) := by
  have hl : 0 < s.data.toList.length := by simpa using h
  have : s.data.toList.headD 0 = s[0] := by
    cases hd : s.data.toList with
    | nil => rw [hd] at hl; simp at hl
    | cons c r =>
      show c = s.data[0]
      have e0 : s.data.toList[0] = c := by simp [hd]
      rw [← e0]; rfl
  unfold strN
  rw [this]

theorem ext_list (s : ByteArray) (a b : Nat) : (s.extract a b).data.toList = (s.data.toList.drop a).take (b - a) := by
  rw [ByteArray.data_extract]
  simp [List.extract]
theorem ext_ext (s : ByteArray) (n : Nat) (h : n < s.size) : (s.extract 0 (1 + n)).extract 1 (min (1 + n) s.size) = s.extract 1 (1 + n) := by
  apply ByteArray.ext
  apply Array.ext'
  rw [ext_list, ext_list, ext_list]
  rw [show min (1 + n) s.size = 1 + n by omega]
  simp only [List.drop_zero, Nat.sub_zero]
  rw [List.drop_take, List.take_take, Nat.min_self]

set_option maxRecDepth 100000 in
set_option maxHeartbeats 400000 in
theorem rstr_any (b : Nat) (s : ByteArray) (e k : Int) (w : World) (h : Rd w b s e) (hs : s.size ≤ maxLen) :
    Calls Try.prog 64 #[.pointer (some ⟨b, 0, none⟩), .int .i64 k] w fun y w' => y = .returned (.string (strR s e k)) ∧ Rd w' b (strS s e k) (strE s e k) ∧ w.grownBy w' (some b) := by
  have h0 := h.c0
  have h1 := h.c1
  by_cases he : e = 0
  · subst he
    by_cases hz : s.size = 0
    · have e0 : strOk s 0 k = false := by simp [strOk, hz]
      have e1 : strR s 0 k = ByteArray.empty := by simp [strR, e0]
      have e2 : strS s 0 k = s := by simp [strS, e0]
      have e3 : strE s 0 k = 2 := by simp [strE, hz]
      rw [e1, e2, e3]
      have hz' : ((s.size : Int) == 0) = true := by simp [hz]
      clear e0 e1 e2 e3 hz
      go_enter Try.func64, Try.ntmps64
      go_wp2_with (first | (go_at_call 58; refine (stopped_any _ _ _ _ h).mono ?_; rintro x w' ⟨rfl, rfl⟩) | (go_at_call 59; refine (fail_any _ _ _ _ _ h).mono ?_; rintro x w' ⟨rfl, rfl⟩))
      go_ret
      exact ⟨rfl, (h.set1 2).1, (h.set1 2).2⟩
    · have hp : 0 < s.size := by omega
      have hz' : ((s.size : Int) == 0) = false := by simp [hz]
      have hN := strN_eq s hp
      have hN8 : strN s < 256 := (s.data.toList.headD 0).toNat_lt
      by_cases hm : k < (strN s : Int)
      · have e0 : strOk s 0 k = false := by simp [strOk]; omega
        have e1 : strR s 0 k = ByteArray.empty := by simp [strR, e0]
        have e2 : strS s 0 k = s := by simp [strS, e0]
        have e3 : strE s 0 k = 3 := by simp [strE, hz, hm]
        rw [e1, e2, e3]
        clear e0 e1 e2 e3 hz
        go_enter Try.func64, Try.ntmps64
        go_wp2_with (first | (go_at_call 58; refine (stopped_any _ _ _ _ h).mono ?_; rintro x w' ⟨rfl, rfl⟩) | (go_at_call 59; refine (fail_any _ _ _ _ _ h).mono ?_; rintro x w' ⟨rfl, rfl⟩))
        go_ret
        exact ⟨rfl, (h.set1 3).1, (h.set1 3).2⟩
      · by_cases hl : s.size ≤ strN s
        · have e0 : strOk s 0 k = false := by simp [strOk]; omega
          have e1 : strR s 0 k = ByteArray.empty := by simp [strR, e0]
          have e2 : strS s 0 k = s := by simp [strS, e0]
          have e3 : strE s 0 k = 2 := by simp [strE, hz, hm, hl]
          rw [e1, e2, e3]
          clear e0 e1 e2 e3 hz
          go_enter Try.func64, Try.ntmps64
          go_wp2_with (first | (go_at_call 58; refine (stopped_any _ _ _ _ h).mono ?_; rintro x w' ⟨rfl, rfl⟩) | (go_at_call 59; refine (fail_any _ _ _ _ _ h).mono ?_; rintro x w' ⟨rfl, rfl⟩))
          go_ret
          exact ⟨rfl, (h.set1 2).1, (h.set1 2).2⟩
        · have e0 : strOk s 0 k = true := by simp [strOk]; omega
          have e1 : strR s 0 k = s.extract 1 (1 + strN s) := by simp [strR, e0]
          have e2 : strS s 0 k = s.extract (1 + strN s) s.size := by simp [strS, e0]
          have e3 : strE s 0 k = 0 := by simp [strE, hz, hm, hl]
          rw [e1, e2, e3]
          clear e0 e1 e2 e3 hz
          go_enter Try.func64, Try.ntmps64
          go_wp2_with (first | (go_at_call 58; refine (stopped_any _ _ _ _ h).mono ?_; rintro x w' ⟨rfl, rfl⟩) | (go_at_call 60; refine (step_one _ _ _ _ _ h (by omega) hs).mono ?_; rintro x w' ⟨rfl, rfl⟩))
          go_ret
          exact ⟨congrArg (fun x => Ending.returned (Value.string x)) (ext_ext s (strN s) (by omega)), (h.set0 _).1, (h.set0 _).2⟩
  · have e0 : strOk s e k = false := by simp [strOk, he]
    have e1 : strR s e k = ByteArray.empty := by simp [strR, e0]
    have e2 : strS s e k = s := by simp [strS, e0]
    have e3 : strE s e k = e := by simp [strE, he]
    rw [e1, e2, e3]
    have he' : (e != 0) = true := by simp [he]
    clear e0 e1 e2 e3 he
    go_enter Try.func64, Try.ntmps64
    go_wp2_with (go_at_call 58; refine (stopped_any _ _ _ _ h).mono ?_; rintro x w' ⟨rfl, rfl⟩)
    go_ret
    exact ⟨rfl, h, World.grownBy.refl _ _⟩

/-- A text's bytes: its length, cut to 255, and as many of it. -/
def strB (l : List UInt8) : List UInt8 := UInt8.ofNat (min l.length 255) :: l.take 255
theorem strB_len (l : List UInt8) : (strB l).length ≤ 256 := by simp [strB]; omega

set_option maxRecDepth 100000 in
set_option maxHeartbeats 400000 in
theorem str_any (v : Value) (l : List UInt8) (s : ByteArray) (base : Nat) (w : World) (hs : s.size ≤ maxLen) (hown : Own 5 w base v l) (hb : base ≤ w.heap.size) (hl : l.length ≤ 140737488355072) :
    Calls Try.prog 55 #[v, .string s] w fun e w' => ∃ v', e = .returned v' ∧ Own 5 w' base v' (l ++ strB s.data.toList) ∧ Fr w v w' v' := by
  obtain ⟨i0, hi, hz0, hz1, hz2⟩ := info_parts Try.info5
  unfold maxLen at hs
  have Hl : Hid (l.length ≤ 140737488355072) := hl
  clear hl
  by_cases hc : (s.size : Int) ≤ 255
  · have Hs : Hid (strB s.data.toList = UInt8.ofNat s.size :: s.data.toList) := by
      have e : s.data.toList.length = s.size := by rw [Array.length_toList]; rfl
      unfold strB
      rw [e, show min s.size 255 = s.size by omega, List.take_of_length_le (by omega)]
      rfl
    have hv : (s.size : Int) = ((UInt8.ofNat s.size).toNat : Int) := by rw [UInt8.toNat_ofNat']; omega
    have Hv : Hid ((s.size : Int) = ((UInt8.ofNat s.size).toNat : Int)) := hv
    have Hb1 : Hid (l.length + 1 ≤ 140737488355328) := by have := Hl.out; show _ ≤ _; omega
    have Hb2 : Hid ((l ++ [UInt8.ofNat s.size]).length + s.data.toList.length ≤ 140737488355328) := by
      have := Hl.out
      have e : s.data.toList.length = s.size := by rw [Array.length_toList]; rfl
      show _ ≤ _
      rw [List.length_append, List.length_singleton, e]; omega
    clear hv
    go_enter Try.func55, Try.ntmps55
    go_wp2_with (first | (at_builtin; refine wpList_append_bytes _ rfl (.tmp 9) (.tmp 12) 58 58 rfl base 5 i0 Try.underlying58 hi hz0 hz1 hz2 v _ rfl (hown.alloc _) _ [UInt8.ofNat s.size] rfl (src_one w 58 5 Try.underlying58 _ _ Hv.out) Hb1.out (by simp; omega) ?_; intro v1 w1 ho1 hg1 hv1) | (at_builtin; refine wpList_append_bytes _ rfl (.tmp 14) (.tmp 17) 58 9 rfl base 5 i0 Try.underlying58 hi hz0 hz1 hz2 v1 _ rfl ho1 _ _ rfl (src_str _ 9 Try.underlying9 s) Hb2.out (Nat.le_trans hb (Nat.le_trans (by simp) hg1.size)) ?_; intro v2 w2 ho2 hg2 hv2))
    go_ret
    refine ⟨_, rfl, ?_, ?_⟩
    · rw [Hs.out]; simpa using ho2
    · exact (((Fr.refl w v).alloc _).step hg1 (by simpa using hv1)).step hg2 hv2
  · have hc : 255 < (s.size : Int) := by omega
    have Hs : Hid (strB s.data.toList = UInt8.ofNat 255 :: (s.extract 0 255).data.toList) := by
      have e : s.data.toList.length = s.size := by rw [Array.length_toList]; rfl
      show _ = _
      unfold strB
      rw [e, show min s.size 255 = 255 by omega, ext_list]
      simp
    have Hb1 : Hid (l.length + 1 ≤ 140737488355328) := by have := Hl.out; show _ ≤ _; omega
    have Hb2 : Hid ((l ++ [UInt8.ofNat 255]).length + (s.extract 0 255).data.toList.length ≤ 140737488355328) := by
      have := Hl.out
      have e : (s.extract 0 255).data.toList.length ≤ 255 := by rw [ext_list]; simp; omega
      show _ ≤ _
      rw [List.length_append, List.length_singleton]; omega
    go_enter Try.func55, Try.ntmps55
    go_wp2_with (first | (at_builtin; refine wpList_append_bytes _ rfl (.tmp 9) (.tmp 12) 58 58 rfl base 5 i0 Try.underlying58 hi hz0 hz1 hz2 v _ rfl (hown.alloc _) _ [UInt8.ofNat 255] rfl (src_one w 58 5 Try.underlying58 _ _ rfl) Hb1.out (by simp; omega) ?_; intro v1 w1 ho1 hg1 hv1) | (at_builtin; refine wpList_append_bytes _ rfl (.tmp 14) (.tmp 17) 58 9 rfl base 5 i0 Try.underlying58 hi hz0 hz1 hz2 v1 _ rfl ho1 _ _ rfl (src_str _ 9 Try.underlying9 (s.extract 0 255)) Hb2.out (Nat.le_trans hb (Nat.le_trans (by simp) hg1.size)) ?_; intro v2 w2 ho2 hg2 hv2))
    go_ret
    refine ⟨_, rfl, ?_, ?_⟩
    · rw [Hs.out]; simpa using ho2
    · exact (((Fr.refl w v).alloc _).step hg1 (by simpa using hv1)).step hg2 hv2

end Go.Proofs.Ytamgnpmkmlhadaa

namespace Go.Proofs.Ytamgnpmkmlhadaa
open Go

theorem mod_step (x m : Nat) : x % 2 ^ (8 * (m + 1)) = x / 2 ^ (8 * m) % 256 * 2 ^ (8 * m) + x % 2 ^ (8 * m) := by
  rw [show 8 * (m + 1) = 8 * m + 8 by omega, Nat.pow_add, Nat.mod_mul, Nat.add_comm, Nat.mul_comm]
theorem be_toNat (x m : Nat) : (UInt8.ofNat (x / 2 ^ (8 * m))).toNat = x / 2 ^ (8 * m) % 256 := UInt8.toNat_ofNat'
theorem cmp_lt {p a b r s : Nat} (hr : r < p) (hs : s < p) : a * p + r < b * p + s ↔ a < b ∨ (a = b ∧ r < s) := by
  constructor
  · intro h
    rcases Nat.lt_trichotomy a b with h1 | h1 | h1
    · exact .inl h1
    · subst h1; exact .inr ⟨rfl, by omega⟩
    · exfalso
      have : (b + 1) * p ≤ a * p := Nat.mul_le_mul_right p h1
      rw [Nat.add_mul] at this
      omega
  · rintro (h | ⟨rfl, h⟩)
    · have : (a + 1) * p ≤ b * p := Nat.mul_le_mul_right p h
      rw [Nat.add_mul] at this
      omega
    · omega
theorem cmp_eq {p a b r s : Nat} (hr : r < p) (hs : s < p) : a * p + r = b * p + s ↔ a = b ∧ r = s := by
  constructor
  · intro h
    have h1 := (cmp_lt (a := a) (b := b) hr hs)
    have h2 := (cmp_lt (a := b) (b := a) hs hr)
    rcases Nat.lt_trichotomy a b with h3 | h3 | h3
    · have := h1.2 (.inl h3); omega
    · subst h3; exact ⟨rfl, by omega⟩
    · have := h2.2 (.inl h3); omega
  · rintro ⟨rfl, rfl⟩; rfl
theorem less_be (x y m : Nat) : Op.bytesLess (be x m) (be y m) = decide (x % 2 ^ (8 * m) < y % 2 ^ (8 * m)) := by
  induction m with
  | zero => simp [be, Op.bytesLess, Nat.mod_one]
  | succ m ih =>
    rw [mod_step x m, mod_step y m]
    have hp : 0 < 2 ^ (8 * m) := Nat.two_pow_pos _
    rw [Bool.eq_iff_iff, decide_eq_true_iff, cmp_lt (Nat.mod_lt _ hp) (Nat.mod_lt _ hp)]
    simp only [be, Op.bytesLess, ih]
    simp [UInt8.lt_iff_toNat_lt, ← UInt8.toNat_inj]
theorem eq_be (x y m : Nat) : (be x m == be y m) = decide (x % 2 ^ (8 * m) = y % 2 ^ (8 * m)) := by
  induction m with
  | zero => simp [be, Nat.mod_one]
  | succ m ih =>
    rw [mod_step x m, mod_step y m]
    have hp : 0 < 2 ^ (8 * m) := Nat.two_pow_pos _
    rw [Bool.eq_iff_iff, decide_eq_true_iff, cmp_eq (Nat.mod_lt _ hp) (Nat.mod_lt _ hp)]
    simp only [be, List.cons_beq_cons, ih]
    simp [← UInt8.toNat_inj]
theorem fold_be (x m : Nat) : ∀ a : Nat, (be x m).foldl (fun a b => a * 256 + b.toNat) a = a * 2 ^ (8 * m) + x % 2 ^ (8 * m) := by
  induction m with
  | zero => intro a; simp [be, Nat.mod_one]
  | succ m ih =>
    intro a
    simp only [be, List.foldl_cons]
    rw [ih, be_toNat, mod_step x m, Nat.add_mul, Nat.mul_assoc a, show 8 * (m + 1) = 8 + 8 * m by omega, Nat.pow_add, show (2 : Nat) ^ 8 = 256 from rfl]
    omega
theorem val_be (x m : Nat) : val (be x m) = x % 2 ^ (8 * m) := by
  unfold val
  rw [fold_be]
  simp
end Go.Proofs.Ytamgnpmkmlhadaa

namespace Go.Proofs.Ytamgnpmkmlhadaa
open Go Go.RowKit

theorem run_append_own_row {P : Program} (w : World) (base : Nat) (t tx ty e : TypeId) (i : TypeInfo) (z : Value) (sz by_ : Nat) (ht : P.underlying t = some (.slice e)) (hi : P.info? e = some i) (hz : i.zero = some z) (hzc : z.cells.size = sz)
    (hsize : i.size = sz) (hby : i.bytes = by_) (v : Value) (n : Nat) (cs : List Value) (hown : w.ownsRow base e sz v n cs) (x : Value) (m : Nat) (ds : List Value) (hs : Src P sz tx x m ds w) (hm : 0 < n + m)
    (hb : (n + m) * by_ ≤ 140737488355328) (hml : n + m ≤ maxLen) (hbase : base ≤ w.heap.size) :
    ∃ v' w', (Builtin.append_ #[t, tx] ty #[v, x]).run P w = .ok v' w' ∧ w'.ownsRow base e sz v' (n + m) (cs ++ ds) ∧ w.grownBy w' v.ownBlock ∧ (v'.ownBlock = v.ownBlock ∨ v'.ownBlock = some w.heap.size) := by
  have hs' : Src P i.size tx x m ds w := by rw [hsize]; exact hs
  have hcl := hown.1
  have hdl := hs.newsLen
  have hlen : (cs ++ ds).length = (n + m) * sz := by rw [List.length_append, hcl, hdl, Nat.add_mul]
  have hml' : n + m ≤ 9223372036854775807 := hml
  have grown : ∀ (old : Nat), old < n + m → ∀ (row : Option Nat),
      (w.drew.alloc (.cells ((cs ++ ds).toArray ++ Builtin.zeroCells z.cells (grownCap w (n + m) old e - (n + m))) e)).ownsRow base e sz
        (.slice (some ⟨w.heap.size, 0, none⟩) (n + m) (grownCap w (n + m) old e)) (n + m) (cs ++ ds) ∧
      w.grownBy (w.drew.alloc (.cells ((cs ++ ds).toArray ++ Builtin.zeroCells z.cells (grownCap w (n + m) old e - (n + m))) e)) row := by
    intro old ho row
    have hge := grownCap_ge w (n + m) old e
    have hcm : grownCap w (n + m) old e ≤ maxLen := grownCap_le_maxLen w _ old e hml
    refine ⟨⟨hlen, .inr ⟨w.heap.size, grownCap w (n + m) old e, _, rfl, hbase, heap_alloc_new w.drew _, hge, hcm, ?_, ?_⟩⟩, ⟨rfl, rfl, rfl, by simp, fun k' hk _ => heap_alloc_old w.drew _ hk⟩⟩
    · simp only [Array.size_append, List.size_toArray, size_zeroCells, hzc, hlen]
      rw [← Nat.add_mul]
      congr 1
      omega
    · simp only [Array.toList_append]
      rw [← hlen]
      exact List.take_left
  rcases hown.2 with ⟨rfl, h0⟩ | ⟨g, cap, cur, rfl, hbg, hg, hnc, hcm, hcs, htake⟩
  · subst h0
    have hl : cs = [] := List.eq_nil_of_length_eq_zero (by rw [hcl, Nat.zero_mul])
    subst hl
    have hr := run_append_grow_src (P := P) w t tx ty e i z ht hi hz none 0 0 [] (run_firstCells_none w.drew i.size 0 0 0) x m ds hs' (by omega) (by omega)
      (growslice_fits (by omega) (by rw [hby]; exact hb))
    have hgr := grown 0 (by omega) (Value.ownBlock (.slice none 0 0))
    exact ⟨_, _, hr, hgr.1, hgr.2, .inr rfl⟩
  · by_cases hroom : n + m ≤ cap
    · have hf := hs'.cells
      have hle : (n + m) * sz ≤ cap * sz := Nat.mul_le_mul_right _ hroom
      have hfit : n * i.size + ds.length ≤ cur.size := by rw [hsize, hcs, hdl, ← Nat.add_mul]; exact hle
      have hst := run_storeCells_at P g (n * i.size) e ds 0 cur w hg (by simpa using hfit) hs.one
      simp only [Nat.add_zero] at hst
      have hr : (Builtin.append_ #[t, tx] ty #[.slice (some ⟨g, 0, none⟩) n cap, x]).run P w =
          .ok (.slice (some ⟨g, 0, none⟩) (n + m) cap) (w.setRow g (cur.toList.take (n * i.size) ++ ds ++ cur.toList.drop (n * i.size + ds.length)).toArray) := by
        rcases hs.kind with ⟨e', hk'⟩ | hk' <;> simp [Builtin.append_, run_underlying ht, run_underlying hk', sizeOf, typeInfo, hi, hs.len, hroom, hf, Addr.add_lit, hst]
      refine ⟨_, _, hr, ⟨hlen, .inr ⟨g, cap, _, rfl, hbg, setRow_heap w g cur _ e _ hg, hroom, hcm, ?_, ?_⟩⟩, ⟨rfl, rfl, rfl, by simp, fun k' _ hk => setRow_other w g k' _ (fun e => hk (by simp [Value.ownBlock, e]))⟩, .inl rfl⟩
      · simp only [List.size_toArray, List.length_append, List.length_take, List.length_drop, Array.length_toList]
        omega
      · rw [hsize, htake, ← hlen]
        exact List.take_left
    · have holds : ∀ j u, cs[j]? = some u → w.cell? ((⟨g, 0, none⟩ : Addr).add j) = some u := World.ownsRow.cells hown (g := g) rfl
      have hr := run_append_grow_src (P := P) w t tx ty e i z ht hi hz (some ⟨g, 0, none⟩) n cap cs (run_firstCells_some w.drew i.size n ⟨g, 0, none⟩ n cap cs (by rw [hsize]; exact hcl) (by simpa using holds)) x m ds hs' (by omega) (by omega)
        (growslice_fits (by omega) (by rw [hby]; exact hb))
      have hgr := grown cap (by omega) (Value.ownBlock (.slice (some ⟨g, 0, none⟩) n cap))
      exact ⟨_, _, hr, hgr.1, hgr.2, .inr rfl⟩

theorem wp_append_row {P : Program} (w : World) {o : Oper} {a : Act} {K : Act → World → Prop} {Q : Exit → Act → World → Prop} (s x : Operand) (t tx : TypeId)
    (ho : o.op = .call { callee := .builtin .append, args := #[s, x], argTypes := #[t, tx] }) (base : Nat) (e : TypeId) (i : TypeInfo) (z : Value) (sz by_ : Nat) (ht : P.underlying t = some (.slice e)) (hi : P.info? e = some i) (hz : i.zero = some z) (hzc : z.cells.size = sz)
    (hsize : i.size = sz) (hby : i.bytes = by_) (v : Value) (n : Nat) (cs : List Value) (hs : a.eval s = v) (hown : w.ownsRow base e sz v n cs) (xv : Value) (m : Nat) (ds : List Value) (hx : a.eval x = xv) (hsrc : Src P sz tx xv m ds w) (hm : 0 < n + m)
    (hb : (n + m) * by_ ≤ 140737488355328) (hml : n + m ≤ maxLen) (hbase : base ≤ w.heap.size)
    (h : ∀ v' w', w'.ownsRow base e sz v' (n + m) (cs ++ ds) → w.grownBy w' v.ownBlock → (v'.ownBlock = v.ownBlock ∨ v'.ownBlock = some w.heap.size) → K (a.put o.dst v') w') : o.wp P a w K Q := by
  obtain ⟨v', w', hr, h2, h3, h4⟩ := run_append_own_row (P := P) w base t tx o.type e i z sz by_ ht hi hz hzc hsize hby v n cs hown xv m ds hsrc hm hb hml hbase
  unfold Oper.wp execOp
  simp only [ho, resolve, invoke, builtin, Sem.run_bind, Sem.run_pure, Result.andThen_ok, List.map_toArray, List.map_cons, List.map_nil, hs, hx, hr]
  exact h v' w' h2 h3 h4

theorem wpList_append_row {P : Program} (w : World) {ops : Array Oper} {rest : List Oper} {o : Oper} {a : Act} {Q : Exit → Act → World → Prop} (hgd : o.guard = none) (s x : Operand) (t tx : TypeId)
    (ho : o.op = .call { callee := .builtin .append, args := #[s, x], argTypes := #[t, tx] }) (base : Nat) (e : TypeId) (i : TypeInfo) (z : Value) (sz by_ : Nat) (ht : P.underlying t = some (.slice e)) (hi : P.info? e = some i) (hz : i.zero = some z) (hzc : z.cells.size = sz)
    (hsize : i.size = sz) (hby : i.bytes = by_) (v : Value) (n : Nat) (cs : List Value) (hs : a.eval s = v) (hown : w.ownsRow base e sz v n cs) (xv : Value) (m : Nat) (ds : List Value) (hx : a.eval x = xv) (hsrc : Src P sz tx xv m ds w) (hm : 0 < n + m)
    (hb : (n + m) * by_ ≤ 140737488355328) (hml : n + m ≤ maxLen) (hbase : base ≤ w.heap.size)
    (h : ∀ v' w', w'.ownsRow base e sz v' (n + m) (cs ++ ds) → w.grownBy w' v.ownBlock → (v'.ownBlock = v.ownBlock ∨ v'.ownBlock = some w.heap.size) → wpList P ops Q rest (a.put o.dst v') w') : wpList P ops Q (o :: rest) a w :=
  wpList_plain hgd fun _ hK => wp_append_row w s x t tx ho base e i z sz by_ ht hi hz hzc hsize hby v n cs hs hown xv m ds hx hsrc hm hb hml hbase fun v' w' h2 h3 h4 => hK _ _ (h v' w' h2 h3 h4)

end Go.Proofs.Ytamgnpmkmlhadaa

namespace Go.Proofs.Ytamgnpmkmlhadaa
open Go.RowKit
set_option linter.unusedVariables false

/-- Bytes as a string. -/
def mkB (l : List UInt8) : ByteArray := ⟨l.toArray⟩
theorem mkB_list (l : List UInt8) : (mkB l).data.toList = l := rfl
theorem mkB_size (l : List UInt8) : (mkB l).size = l.length := by show l.toArray.size = _; simp
theorem mkB_ext (l : List UInt8) (a b : Nat) : (mkB l).extract a b = mkB ((l.drop a).take (b - a)) := by
  apply ByteArray.ext
  apply Array.ext'
  rw [ext_list, mkB_list, mkB_list]
theorem mkB_self (s : ByteArray) : mkB s.data.toList = s := by cases s; rfl

theorem raw_app (a r : List UInt8) : rawR (mkB (a ++ r)) 0 (a.length : Int) = mkB a ∧ rawS (mkB (a ++ r)) 0 (a.length : Int) = mkB r ∧ rawE (mkB (a ++ r)) 0 (a.length : Int) = 0 := by
  have hz := mkB_size (a ++ r)
  rw [List.length_append] at hz
  refine ⟨?_, ?_, ?_⟩
  · unfold rawR
    rw [if_neg (by omega), Int.toNat_natCast, mkB_ext]
    simp
  · unfold rawS
    rw [if_neg (by omega), Int.toNat_natCast, mkB_ext]
    congr 1
    rw [hz]
    simp
  · unfold rawE
    rw [if_neg (by omega), if_neg (by omega)]
theorem str_app (l r : List UInt8) : strR (mkB (strB l ++ r)) 0 255 = mkB (l.take 255) ∧ strS (mkB (strB l ++ r)) 0 255 = mkB r ∧ strE (mkB (strB l ++ r)) 0 255 = 0 := by
  have hz := mkB_size (strB l ++ r)
  have hb : (strB l).length = 1 + min l.length 255 := by simp [strB]; omega
  rw [List.length_append, hb] at hz
  have hN : strN (mkB (strB l ++ r)) = min l.length 255 := by
    unfold strN
    rw [mkB_list]
    simp [strB]
    omega
  have h0 : strOk (mkB (strB l ++ r)) 0 255 = true := by unfold strOk; rw [hN, hz, decide_eq_true_iff]; omega
  refine ⟨?_, ?_, ?_⟩
  · simp only [strR, h0, if_true]
    rw [hN, mkB_ext]
    congr 1
    simp only [strB, List.cons_append, List.drop_succ_cons, List.drop_zero]
    rw [show 1 + min l.length 255 - 1 = (l.take 255).length by simp; omega]
    exact List.take_left
  · simp only [strS, h0, if_true]
    rw [hN, mkB_ext, ← hb, List.drop_left]
    congr 1
    exact List.take_of_length_le (by omega)
  · unfold strE
    rw [hN]
    rw [if_neg (by omega), if_neg (by omega), if_neg (by omega), if_neg (by omega)]

theorem back_num (b n : Nat) (k : Int) (r : List UInt8) (w : World) (h : Rd w b (mkB (be n (wid k) ++ r)) 0) (hs : (be n (wid k) ++ r).length ≤ maxLen) :
    Calls Try.prog 47 #[.pointer (some ⟨b, 0, none⟩), .int .i64 k] w fun y w' => y = .returned (.int .u64 ((n % 2 ^ (8 * wid k) : Nat) : Int)) ∧ Rd w' b (mkB r) 0 ∧ w.grownBy w' (some b) := by
  refine (rnum_any b _ 0 k w h (by rw [mkB_size]; exact hs)).mono ?_
  rintro y w' ⟨rfl, hr, hg⟩
  have h1 := raw_app (be n (wid k)) r
  rw [be_len] at h1
  rw [h1.1, mkB_list, val_be]
  rw [h1.2.1, h1.2.2] at hr
  exact ⟨rfl, hr, hg⟩
theorem back_str (b : Nat) (l r : List UInt8) (w : World) (h : Rd w b (mkB (strB l ++ r)) 0) (hs : (strB l ++ r).length ≤ maxLen) :
    Calls Try.prog 64 #[.pointer (some ⟨b, 0, none⟩), .int .i64 255] w fun y w' => y = .returned (.string (mkB (l.take 255))) ∧ Rd w' b (mkB r) 0 ∧ w.grownBy w' (some b) := by
  refine (rstr_any b _ 0 255 w h (by rw [mkB_size]; exact hs)).mono ?_
  rintro y w' ⟨rfl, hr, hg⟩
  have h1 := str_app l r
  rw [h1.1]
  rw [h1.2.1, h1.2.2] at hr
  exact ⟨rfl, hr, hg⟩
theorem back_raw (b : Nat) (l r : List UInt8) (w : World) (h : Rd w b (mkB (l ++ r)) 0) (hs : (l ++ r).length ≤ maxLen) :
    Calls Try.prog 49 #[.pointer (some ⟨b, 0, none⟩), .int .i64 (l.length : Int)] w fun y w' => y = .returned (.string (mkB l)) ∧ Rd w' b (mkB r) 0 ∧ w.grownBy w' (some b) := by
  refine (raw_any b _ 0 _ w h (by rw [mkB_size]; exact hs)).mono ?_
  rintro y w' ⟨rfl, hr, hg⟩
  have h1 := raw_app l r
  rw [h1.1]
  rw [h1.2.1, h1.2.2] at hr
  exact ⟨rfl, hr, hg⟩

theorem rnum1_cons (b : Nat) (c : UInt8) (r : List UInt8) (w : World) (h : Rd w b (mkB (c :: r)) 0) (hs : (c :: r).length ≤ maxLen) :
    Calls Try.prog 47 #[.pointer (some ⟨b, 0, none⟩), .int .i64 1] w fun y w' => y = .returned (.int .u64 (c.toNat : Int)) ∧ Rd w' b (mkB r) 0 ∧ w.grownBy w' (some b) := by
  refine (rnum_any b _ 0 1 w h (by rw [mkB_size]; exact hs)).mono ?_
  rintro y w' ⟨rfl, hr, hg⟩
  have h1 := raw_app [c] r
  rw [show ((wid 1 : Nat) : Int) = (([c] : List UInt8).length : Int) from rfl] at hr ⊢
  rw [show c :: r = [c] ++ r from rfl] at hr ⊢
  rw [h1.1, mkB_list]
  rw [h1.2.1, h1.2.2] at hr
  exact ⟨by simp [val], hr, hg⟩
theorem rnum_short (b : Nat) (k : Int) (l : List UInt8) (w : World) (h : Rd w b (mkB l) 0) (hl : l.length < wid k) :
    Calls Try.prog 47 #[.pointer (some ⟨b, 0, none⟩), .int .i64 k] w fun y w' => y = .returned (.int .u64 0) ∧ Rd w' b (mkB l) 2 ∧ w.grownBy w' (some b) := by
  have hz := mkB_size l
  have h8 := wid_hi k
  refine (rnum_any b _ 0 k w h (by rw [mkB_size]; unfold maxLen; omega)).mono ?_
  rintro y w' ⟨rfl, hr, hg⟩
  have e1 : rawR (mkB l) 0 (wid k) = ByteArray.empty := by unfold rawR; rw [if_pos (by omega)]
  have e2 : rawS (mkB l) 0 (wid k) = mkB l := by unfold rawS; rw [if_pos (by omega)]
  have e3 : rawE (mkB l) 0 (wid k) = 2 := by unfold rawE; rw [if_neg (by omega), if_pos (by omega)]
  rw [e2, e3] at hr
  rw [e1]
  exact ⟨rfl, hr, hg⟩
theorem rnum_ok (b : Nat) (k : Int) (l : List UInt8) (w : World) (h : Rd w b (mkB l) 0) (hl : wid k ≤ l.length) (hs : l.length ≤ maxLen) :
    Calls Try.prog 47 #[.pointer (some ⟨b, 0, none⟩), .int .i64 k] w fun y w' => y = .returned (.int .u64 (val (l.take (wid k)) : Int)) ∧ Rd w' b (mkB (l.drop (wid k))) 0 ∧ w.grownBy w' (some b) := by
  refine (rnum_any b _ 0 k w h (by rw [mkB_size]; exact hs)).mono ?_
  rintro y w' ⟨rfl, hr, hg⟩
  have h1 := raw_app (l.take (wid k)) (l.drop (wid k))
  rw [List.take_append_drop, List.length_take, Nat.min_eq_left hl] at h1
  rw [h1.1, mkB_list]
  rw [h1.2.1, h1.2.2] at hr
  exact ⟨rfl, hr, hg⟩

end Go.Proofs.Ytamgnpmkmlhadaa
