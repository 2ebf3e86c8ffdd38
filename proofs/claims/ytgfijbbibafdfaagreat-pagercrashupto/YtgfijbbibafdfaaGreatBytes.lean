/- Laws on slices of bytes that a call itself has made: what they own, what an append (of bytes, of a string) makes of them, and the string they are turned into; for every program. No conditions but those that each law states. -/
import Derived.WalkKit
import Derived.ProofKit
import Derived.WalkSpells
import Derived.Deep.AppendSrc
namespace Go.Proofs.YtgfijbbibafdfaaGreat
open Go Go.RowKit

/-- Bytes as cells. -/
def bcs (l : List UInt8) : List Value := l.map fun b => Value.int .u8 (b.toNat : Int)
theorem bcs_len (l : List UInt8) : (bcs l).length = l.length := by simp [bcs]
theorem bcs_append (l k : List UInt8) : bcs (l ++ k) = bcs l ++ bcs k := by simp [bcs]
theorem bcs_one (l : List UInt8) : ∀ u ∈ bcs l, u.oneCell' = true := by
  intro u hu
  obtain ⟨_, _, rfl⟩ := List.mem_map.1 hu
  rfl
theorem bcs_bytes (s : ByteArray) : bcs s.data.toList = byteCells s := rfl

/-- The slice value v owns the bytes l (element type e), in a block from 'base' on, or is nil and l is empty. -/
def Own (e : TypeId) (w : World) (base : Nat) (v : Value) (l : List UInt8) : Prop := w.ownsRow base e 1 v l.length (bcs l)

theorem Own.nil (e : TypeId) (w : World) (base : Nat) : Own e w base (.slice none 0 0) [] := World.ownsRow_nil w base e 1
theorem Own.lt {e : TypeId} {w : World} {base : Nat} {v : Value} {l : List UInt8} (h : Own e w base v l) : ∀ k, v.ownBlock = some k → base ≤ k ∧ k < w.heap.size := World.ownsRow.lt h
theorem Own.kept {e : TypeId} {w w' : World} {base : Nat} {v : Value} {l : List UInt8} {row : Option Nat} (h : Own e w base v l) (hg : w.grownBy w' row) (hne : v.ownBlock = none ∨ v.ownBlock ≠ row) : Own e w' base v l :=
  World.ownsRow.kept h hg hne
theorem Own.alloc {e : TypeId} {w : World} {base : Nat} {v : Value} {l : List UInt8} (h : Own e w base v l) (o : Obj) : Own e (w.alloc o) base v l := World.ownsRow.alloc h o
theorem Own.drew {e : TypeId} {w : World} {base : Nat} {v : Value} {l : List UInt8} (h : Own e w base v l) : Own e w.drew base v l := World.ownsRow.drew h
theorem Own.mono {e : TypeId} {w : World} {base base' : Nat} {v : Value} {l : List UInt8} (h : Own e w base v l) (hb : base' ≤ base) : Own e w base' v l := by
  refine ⟨h.1, ?_⟩
  rcases h.2 with hn | ⟨g, cap, cur, rfl, hb2, rest⟩
  · exact .inl hn
  · exact .inr ⟨g, cap, cur, rfl, by omega, rest⟩
theorem Own.bound {e : TypeId} {w : World} {base : Nat} {v : Value} {l : List UInt8} (h : Own e w base v l) : l.length ≤ maxLen := by
  rcases h.2 with ⟨_, h0⟩ | ⟨g, cap, cur, rfl, _, _, h1, h2, _⟩
  · omega
  · omega
/-- Its shape. -/
theorem Own.shape {e : TypeId} {w : World} {base : Nat} {v : Value} {l : List UInt8} (h : Own e w base v l) : (v = .slice none 0 0 ∧ l = []) ∨ ∃ g cap, v = .slice (some ⟨g, 0, none⟩) l.length cap ∧ base ≤ g ∧ g < w.heap.size ∧ ∀ j (hj : j < l.length), w.cell? ⟨g, j, none⟩ = some (.int .u8 (l[j].toNat : Int)) := by
  have h' := h
  rcases h.2 with ⟨rfl, h0⟩ | ⟨g, cap, cur, rfl, hb, hg, _⟩
  · exact .inl ⟨rfl, List.eq_nil_of_length_eq_zero h0⟩
  · refine .inr ⟨g, cap, rfl, hb, (Array.getElem?_eq_some_iff.1 hg).1, fun j hj => ?_⟩
    have hc := World.ownsRow.cellAt (g := g) (cap := cap) h' j (by omega)
    rw [hc]
    simp [bcs, hj]

theorem run_append_own_bytes {P : Program} (w : World) (base : Nat) (t tx ty e : TypeId) (i : TypeInfo) (ht : P.underlying t = some (.slice e)) (hi : P.info? e = some i) (hz : i.zero = some (.int .u8 0))
    (hsize : i.size = 1) (hby : i.bytes = 1) (v : Value) (l : List UInt8) (hown : Own e w base v l) (x : Value) (k : List UInt8) (hs : Src P 1 tx x k.length (bcs k) w)
    (hb : l.length + k.length ≤ 140737488355328) (hbase : base ≤ w.heap.size) :
    ∃ v' w', (Builtin.append_ #[t, tx] ty #[v, x]).run P w = .ok v' w' ∧ Own e w' base v' (l ++ k) ∧ w.grownBy w' v.ownBlock ∧ (v'.ownBlock = v.ownBlock ∨ v'.ownBlock = some w.heap.size) := by
  have hs' : Src P i.size tx x k.length (bcs k) w := by rw [hsize]; exact hs
  have hml : l.length + k.length ≤ maxLen := by simp only [maxLen]; omega
  have hlen : (bcs l ++ bcs k).length = l.length + k.length := by simp [bcs_len]
  have grown : ∀ (old : Nat), old < l.length + k.length → ∀ (row : Option Nat),
      Own e (w.drew.alloc (.cells ((bcs l ++ bcs k).toArray ++ Builtin.zeroCells (Value.int .u8 0).cells (grownCap w (l.length + k.length) old e - (l.length + k.length))) e)) base
        (.slice (some ⟨w.heap.size, 0, none⟩) (l.length + k.length) (grownCap w (l.length + k.length) old e)) (l ++ k) ∧
      w.grownBy (w.drew.alloc (.cells ((bcs l ++ bcs k).toArray ++ Builtin.zeroCells (Value.int .u8 0).cells (grownCap w (l.length + k.length) old e - (l.length + k.length))) e)) row := by
    intro old ho row
    have hge := grownCap_ge w (l.length + k.length) old e
    have hcm : grownCap w (l.length + k.length) old e ≤ maxLen := grownCap_le_maxLen w _ old e hml
    have hz1 : (Value.int .u8 0).cells.size = 1 := rfl
    refine ⟨⟨by rw [bcs_append, hlen, List.length_append, Nat.mul_one], .inr ⟨w.heap.size, grownCap w (l.length + k.length) old e, _, by rw [List.length_append], hbase, heap_alloc_new w.drew _, by rw [List.length_append]; exact hge, hcm, ?_, ?_⟩⟩, ⟨rfl, rfl, rfl, by simp, fun k' hk _ => heap_alloc_old w.drew _ hk⟩⟩
    · simp only [Array.size_append, List.size_toArray, size_zeroCells, hz1, hlen]
      omega
    · rw [List.length_append, Nat.mul_one, bcs_append]
      simp only [Array.toList_append]
      rw [← hlen]
      exact List.take_left
  rcases hown.2 with ⟨rfl, h0⟩ | ⟨g, cap, cur, rfl, hbg, hg, hnc, hcm, hcs, htake⟩
  · have hl : l = [] := List.eq_nil_of_length_eq_zero h0
    subst hl
    by_cases hk : k = []
    · subst hk
      refine ⟨.slice none 0 0, w, ?_, Own.nil e w base, ⟨rfl, rfl, rfl, Nat.le_refl _, fun _ _ _ => rfl⟩, .inl rfl⟩
      have hc := hs'.cells
      have hn := hs'.len
      simp only [List.length_nil] at hc hn
      rcases hs.kind with ⟨e', hk'⟩ | hk' <;> simp [Builtin.append_, run_underlying ht, run_underlying hk', sizeOf, typeInfo, hi, hn, hc]
    · have hkl : 0 < k.length := List.length_pos_iff.2 hk
      have hr := run_append_grow_src (P := P) w t tx ty e i (.int .u8 0) ht hi hz none 0 0 [] (run_firstCells_none w.drew i.size 0 0 0) x k.length (bcs k) hs' (by omega) (by simp only [List.length_nil] at hb; omega)
        (growslice_fits (by omega) (by rw [hby]; simp only [List.length_nil] at hb; omega))
      have hgr := grown 0 (by omega) (Value.ownBlock (.slice none 0 0))
      exact ⟨_, _, hr, hgr.1, hgr.2, .inr rfl⟩
  · by_cases hroom : l.length + k.length ≤ cap
    · have hf := hs'.cells
      have hfit : l.length * i.size + (bcs k).length ≤ cur.size := by rw [hsize, hcs, bcs_len]; omega
      have hst := run_storeCells_at P g (l.length * i.size) e (bcs k) 0 cur w hg (by simpa using hfit) hs.one
      simp only [Nat.add_zero] at hst
      have hr : (Builtin.append_ #[t, tx] ty #[.slice (some ⟨g, 0, none⟩) l.length cap, x]).run P w =
          .ok (.slice (some ⟨g, 0, none⟩) (l.length + k.length) cap) (w.setRow g (cur.toList.take (l.length * i.size) ++ bcs k ++ cur.toList.drop (l.length * i.size + (bcs k).length)).toArray) := by
        rcases hs.kind with ⟨e', hk'⟩ | hk' <;> simp [Builtin.append_, run_underlying ht, run_underlying hk', sizeOf, typeInfo, hi, hs.len, hroom, hf, Addr.add_lit, hst]
      refine ⟨_, _, hr, ⟨by rw [bcs_append, hlen, List.length_append, Nat.mul_one], .inr ⟨g, cap, _, by rw [List.length_append], hbg, setRow_heap w g cur _ e _ hg, by rw [List.length_append]; exact hroom, hcm, ?_, ?_⟩⟩, ⟨rfl, rfl, rfl, by simp, fun k' _ hk => setRow_other w g k' _ (fun e => hk (by simp [Value.ownBlock, e]))⟩, .inl rfl⟩
      · simp only [List.size_toArray, List.length_append, List.length_take, List.length_drop, Array.length_toList, bcs_len, hsize]
        omega
      · rw [hsize, htake, List.length_append, Nat.mul_one, bcs_append, ← hlen]
        exact List.take_left
    · have holds : ∀ j u, (bcs l)[j]? = some u → w.cell? ((⟨g, 0, none⟩ : Addr).add j) = some u := World.ownsRow.cells hown (g := g) rfl
      have hr := run_append_grow_src (P := P) w t tx ty e i (.int .u8 0) ht hi hz (some ⟨g, 0, none⟩) l.length cap (bcs l) (run_firstCells_some w.drew i.size l.length ⟨g, 0, none⟩ l.length cap (bcs l) (by rw [hsize, bcs_len, Nat.mul_one]) (by simpa using holds)) x k.length (bcs k) hs' (by omega) (by omega)
        (growslice_fits (by omega) (by rw [hby]; omega))
      have hgr := grown cap (by omega) (Value.ownBlock (.slice (some ⟨g, 0, none⟩) l.length cap))
      exact ⟨_, _, hr, hgr.1, hgr.2, .inr rfl⟩

theorem wp_append_bytes {P : Program} (w : World) {o : Oper} {a : Act} {K : Act → World → Prop} {Q : Exit → Act → World → Prop} (s x : Operand) (t tx : TypeId)
    (ho : o.op = .call { callee := .builtin .append, args := #[s, x], argTypes := #[t, tx] }) (base : Nat) (e : TypeId) (i : TypeInfo) (ht : P.underlying t = some (.slice e)) (hi : P.info? e = some i) (hz : i.zero = some (.int .u8 0))
    (hsize : i.size = 1) (hby : i.bytes = 1) (v : Value) (l : List UInt8) (hs : a.eval s = v) (hown : Own e w base v l) (xv : Value) (k : List UInt8) (hx : a.eval x = xv) (hsrc : Src P 1 tx xv k.length (bcs k) w)
    (hb : l.length + k.length ≤ 140737488355328) (hbase : base ≤ w.heap.size)
    (h : ∀ v' w', Own e w' base v' (l ++ k) → w.grownBy w' v.ownBlock → (v'.ownBlock = v.ownBlock ∨ v'.ownBlock = some w.heap.size) → K (a.put o.dst v') w') : o.wp P a w K Q := by
  obtain ⟨v', w', hr, h2, h3, h4⟩ := run_append_own_bytes (P := P) w base t tx o.type e i ht hi hz hsize hby v l hown xv k hsrc hb hbase
  unfold Oper.wp execOp
  simp only [ho, resolve, invoke, builtin, Sem.run_bind, Sem.run_pure, Result.andThen_ok, List.map_toArray, List.map_cons, List.map_nil, hs, hx, hr]
  exact h v' w' h2 h3 h4

theorem wpList_append_bytes {P : Program} (w : World) {ops : Array Oper} {rest : List Oper} {o : Oper} {a : Act} {Q : Exit → Act → World → Prop} (hgd : o.guard = none) (s x : Operand) (t tx : TypeId)
    (ho : o.op = .call { callee := .builtin .append, args := #[s, x], argTypes := #[t, tx] }) (base : Nat) (e : TypeId) (i : TypeInfo) (ht : P.underlying t = some (.slice e)) (hi : P.info? e = some i) (hz : i.zero = some (.int .u8 0))
    (hsize : i.size = 1) (hby : i.bytes = 1) (v : Value) (l : List UInt8) (hs : a.eval s = v) (hown : Own e w base v l) (xv : Value) (k : List UInt8) (hx : a.eval x = xv) (hsrc : Src P 1 tx xv k.length (bcs k) w)
    (hb : l.length + k.length ≤ 140737488355328) (hbase : base ≤ w.heap.size)
    (h : ∀ v' w', Own e w' base v' (l ++ k) → w.grownBy w' v.ownBlock → (v'.ownBlock = v.ownBlock ∨ v'.ownBlock = some w.heap.size) → wpList P ops Q rest (a.put o.dst v') w') : wpList P ops Q (o :: rest) a w :=
  wpList_plain hgd fun _ hK => wp_append_bytes w s x t tx ho base e i ht hi hz hsize hby v l hs hown xv k hx hsrc hb hbase fun v' w' h2 h3 h4 => hK _ _ (h v' w' h2 h3 h4)

/-- 'string(b)' of an owned slice. -/
theorem run_convert_own {P : Program} (w : World) (src dst e : TypeId) (hs : P.underlying src = some (.slice e)) (he : P.underlying e = some (.int .u8)) (hd : P.underlying dst = some .string) {base : Nat} {v : Value} {l : List UInt8} (h : Own e w base v l) :
    (convert src dst v).run P w = .ok (.string ⟨l.toArray⟩) w := by
  rcases h.shape with ⟨rfl, rfl⟩ | ⟨g, cap, rfl, _, _, hc⟩
  · rw [run_convert_bytes_nil w src e hs he 0 0 dst hd]; rfl
  · exact run_convert_bytes_back w src dst e ⟨g, 0, none⟩ cap l hs he hd (fun j hj => by rw [← hc j hj]; congr 1; simp [Addr.add]; omega)

/-- One byte stored. -/
theorem Own.stored {e : TypeId} {w : World} {base g n cap : Nat} {l : List UInt8} (h : Own e w base (.slice (some ⟨g, 0, none⟩) n cap) l) (j : Nat) (c : UInt8) :
    Own e (w.setCell ⟨g, j, none⟩ (.int .u8 (c.toNat : Int))) base (.slice (some ⟨g, 0, none⟩) n cap) (l.set j c) ∧ w.grownBy (w.setCell ⟨g, j, none⟩ (.int .u8 (c.toNat : Int))) (some g) := by
  have hn : n = l.length := by
    rcases h.2 with ⟨h1, _⟩ | ⟨g', cap', cur, h1, _⟩
    · cases h1
    · cases h1; rfl
  subst hn
  have h2 := World.ownsRow.stored (g := g) (cap := cap) h j (.int .u8 (c.toNat : Int))
  refine ⟨?_, h2.2⟩
  have e1 : bcs (l.set j c) = (bcs l).set j (.int .u8 (c.toNat : Int)) := by simp [bcs, List.map_set]
  unfold Own
  rw [e1, List.length_set]
  exact h2.1
theorem Own.cellAt {e : TypeId} {w : World} {base g n cap : Nat} {l : List UInt8} (h : Own e w base (.slice (some ⟨g, 0, none⟩) n cap) l) (j : Nat) (hj : j < l.length) : w.cell? ⟨g, j, none⟩ = some (.int .u8 (l[j].toNat : Int)) ∧ w.frozen? ⟨g, j, none⟩ = false := by
  have hn : n = l.length := by
    rcases h.2 with ⟨h1, _⟩ | ⟨g', cap', cur, h1, _⟩
    · cases h1
    · cases h1; rfl
  subst hn
  refine ⟨?_, World.ownsRow.frozenAt (g := g) (cap := cap) h j⟩
  rw [World.ownsRow.cellAt (g := g) (cap := cap) h j (by omega)]
  simp [bcs, hj]

/-- Chaining 'grownBy'. -/
theorem grown_trans {w w1 w2 : World} {row row' : Option Nat} (h : w.grownBy w1 row) (h' : w1.grownBy w2 row') (hr : row' = row ∨ ∃ k, row' = some k ∧ w.heap.size ≤ k) : w.grownBy w2 row :=
  ⟨h'.os.trans h.os, h'.tape.trans h.tape, h'.output.trans h.output, Nat.le_trans h.size h'.size, fun k hk hne => by
    rw [h'.block k (Nat.lt_of_lt_of_le hk h.size) (by
      rcases hr with rfl | ⟨k', rfl, hk'⟩
      · exact hne
      · intro he; cases he; omega)]
    exact h.block k hk hne⟩

/-- The slice v of the world w has become v' in w': nothing that was there has turned but v's own row; v' lies in that row or in a new one. -/
def Fr (w : World) (v : Value) (w' : World) (v' : Value) : Prop := w.grownBy w' v.ownBlock ∧ (v'.ownBlock = v.ownBlock ∨ ∃ g, v'.ownBlock = some g ∧ w.heap.size ≤ g)
theorem Fr.refl (w : World) (v : Value) : Fr w v w v := ⟨World.grownBy.refl w _, .inl rfl⟩
theorem Fr.alloc {w : World} {v : Value} {w1 : World} {b : Value} (h : Fr w v w1 b) (o : Obj) : Fr w v (w1.alloc o) b :=
  ⟨grown_trans h.1 (World.grownBy_alloc w1 o v.ownBlock) (.inl rfl), h.2⟩
theorem Fr.step {w : World} {v : Value} {w1 : World} {b : Value} {w2 : World} {b' : Value} (h : Fr w v w1 b) (hg : w1.grownBy w2 b.ownBlock) (hb : b'.ownBlock = b.ownBlock ∨ b'.ownBlock = some w1.heap.size) : Fr w v w2 b' := by
  refine ⟨grown_trans h.1 hg h.2, ?_⟩
  rcases hb with hb | hb
  · rw [hb]; exact h.2
  · exact .inr ⟨_, hb, h.1.size⟩
theorem Fr.trans {w : World} {v : Value} {w1 : World} {b : Value} {w2 : World} {b' : Value} (h : Fr w v w1 b) (h' : Fr w1 b w2 b') : Fr w v w2 b' := by
  refine ⟨grown_trans h.1 h'.1 h.2, ?_⟩
  rcases h'.2 with hb | ⟨g, hg, hle⟩
  · rw [hb]; exact h.2
  · exact .inr ⟨g, hg, Nat.le_trans h.1.size hle⟩
theorem Fr.below {w0 w : World} {v : Value} {w' : World} {v' : Value} {B : Nat} (h : Fr w v w' v') (hb : Below B w0 w) (hB : B ≤ w.heap.size) (hv : ∀ k, v.ownBlock = some k → B ≤ k) : Below B w0 w' :=
  hb.grown h.1 hB hv

/-- One byte, in a new block, as what is appended. -/
theorem src_one {P : Program} (w : World) (t e : TypeId) (ht : P.underlying t = some (.slice e)) (c : UInt8) (z : Int) (hz : z = (c.toNat : Int)) :
    Src P 1 t (.slice (some ⟨w.heap.size, 0, none⟩) 1 1) [c].length (bcs [c]) (w.alloc (.cells #[.int .u8 z] e)) := by
  subst hz
  refine Src.ofSlice (e' := e) _ ht ⟨w.heap.size, 0, none⟩ 1 1 (bcs [c]) (by simp [bcs]) ?_ (bcs_one [c])
  intro j u hj
  match j, hj with
  | 0, hj => simp [bcs] at hj; subst hj; simp [Addr.add]

/-- A string as what is appended. -/
theorem src_str {P : Program} (w : World) (tx : TypeId) (hk : P.underlying tx = some .string) (s : ByteArray) : Src P 1 tx (.string s) s.data.toList.length (bcs s.data.toList) w := by
  have h := Src.ofString (P := P) w hk s
  have e : s.data.toList.length = s.size := by rw [Array.length_toList]; rfl
  rw [e]
  exact h

end Go.Proofs.YtgfijbbibafdfaaGreat
