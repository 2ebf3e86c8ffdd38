/- Contracts, over the turned program: a pager's images, refusal, settleMark, writeJournal. Conditions: those that each theorem states. Contracts, over the turned program: a pager's settleMark, writeJournal. Conditions: those that each theorem states. Contracts, over the turned program: a pager's Commit and its closures. Conditions: those that each theorem states. Contracts, over the turned program: the laws' fill and pages; the document's Zero, New, Right, With, Calls; same. Conditions: those that each theorem states. Contracts, over the turned program: the document's New, Right, With. Conditions: those that each theorem states. What a pager's calls make of its pages: plain mathematics on top of the contracts' words. Conditions: those that each theorem states. Contract, over the turned program: the document's With. Conditions: those that the theorem states. -/
import Derived.Test.YtmnedhlgplkfhaaJP2
import Derived.Test.YtmnedhlgplkfhaaJC
import Derived.Deep.RegionLaw
namespace Go.Proofs.Ytmnedhlgplkfhaa
open Go.RowKit
set_option linter.unusedVariables false

/-- What the pages of changes are, as they are read. -/
def oldD (D : Dv) (l : List Chg) : List Chg := l.map fun c => ⟨c.page, lookS D (placeN c.page.toNat)⟩
theorem oldD_len (D : Dv) (l : List Chg) : (oldD D l).length = l.length := by simp [oldD]
theorem oldD_take (D : Dv) (l : List Chg) (k : Nat) (h : k < l.length) : (oldD D l).take (k + 1) = (oldD D l).take k ++ [⟨l[k].page, lookS D (placeN l[k].page.toNat)⟩] := by
  rw [List.take_succ_eq_append_getElem (by rw [oldD_len]; exact h)]
  simp [oldD]
/-- For which error nothing is done. -/
def refE (n : Nat) (bl l : List Chg) : Int := if 0 < bl.length then 13 else if 31 < l.length then 3 else if allB n (l.map Chg.page) then (if ∀ c ∈ l, c.data.size = 256 then wE (l.map Chg.page) else 1) else 7
end Go.Proofs.Ytmnedhlgplkfhaa

namespace Go.Proofs.Ytmnedhlgplkfhaa
open Go.RowKit
set_option linter.unusedVariables false

theorem size_mk64 (x : List UInt8) (h : x.length = 64) : (⟨x.toArray⟩ : ByteArray).size ≤ maxLen := by
  show x.toArray.size ≤ maxLen
  rw [List.size_toArray, h]
  unfold maxLen
  omega
end Go.Proofs.Ytmnedhlgplkfhaa

namespace Go.Proofs.Ytmnedhlgplkfhaa
open Go.RowKit
set_option linter.unusedVariables false

/-- The two variables that Commit and settle make of their parameters. -/
theorem two_vars (w : World) (x y : Value) (t u : TypeId) : Kp none' w ((w.alloc (.cells #[x] t)).alloc (.cells #[y] u)) ∧ ((w.alloc (.cells #[x] t)).alloc (.cells #[y] u)).cell? ⟨w.heap.size, 0, none⟩ = some x ∧
    ((w.alloc (.cells #[x] t)).alloc (.cells #[y] u)).cell? ⟨w.heap.size + 1, 0, none⟩ = some y := by
  refine ⟨(Kp.alloc none' w _).then (Kp.alloc none' _ _), (Kp.alloc none' _ _).cell (by rw [cell_of_row _ _ _ _ _ _ (heap_alloc_new w _)]; rfl) (fun h => h), ?_⟩
  have := heap_alloc_new (w.alloc (.cells #[x] t)) (.cells #[y] u)
  rw [show (w.alloc (.cells #[x] t)).heap.size = w.heap.size + 1 by simp] at this
  rw [cell_of_row _ _ _ _ _ _ this]
  rfl
theorem okC_ref {n : Nat} {l : List Chg} (hn : n ≤ 160) (h : okC n l) : refE n [] l = 0 := by
  have h1 : ¬ 31 < l.length := by have := h.m; omega
  have h2 : allB n (l.map Chg.page) = true := by
    unfold allB
    rw [List.all_eq_true]
    intro z hz
    obtain ⟨c, hc, rfl⟩ := List.mem_map.1 hz
    have := h.p c hc
    simp [hasB]
    omega
  unfold refE
  rw [if_neg (by simp), if_neg h1, if_pos h2, if_pos h.d, okC_wE hn h]
theorem oldD_pages (D : Dv) (l : List Chg) : (oldD D l).map Chg.page = l.map Chg.page := by
  unfold oldD
  rw [List.map_map]
  rfl
theorem oldD_ok {w : World} {p : Dp} {D : Dv} {n : Nat} {l : List Chg} (hD : Dev w p D) (hn : 126 + 4 * n ≤ D.n) (h : okC n l) : okC n (oldD D l) := by
  refine ⟨fun c hc => ?_, fun c hc => ?_, by rw [oldD_pages]; exact h.u, by rw [oldD_len]; exact h.m⟩
  · obtain ⟨d, hd, rfl⟩ := List.mem_map.1 hc
    exact h.p d hd
  · obtain ⟨d, hd, rfl⟩ := List.mem_map.1 hc
    have := h.p d hd
    exact catB_four D _ (fun j hj => hD.atl _ (by unfold placeN; omega))
/-- A pager's cell is written. -/
theorem Pag.setC {w : World} {g : Nat} {p : Dp} {n : Nat} {c : Int} {bv : Value} {bl : List Chg} (h : Pag w g p n c bv bl) (x : Int) : Pag (w.setCell ⟨g, 2, none⟩ (.int .i64 x)) g p n x bv bl := by
  have hk : Kp (only g) w (w.setCell ⟨g, 2, none⟩ (.int .i64 x)) := Kp.setCell _ _ _ _ rfl
  have ne : ∀ j, j ≠ 2 → (⟨g, 2, none⟩ : Addr) ≠ ⟨g, j, none⟩ := fun j hj he => hj (congrArg Addr.off he).symm
  exact ⟨by rw [World.cell?_setCell_other (h := ne 0 (by omega))]; exact h.c0, by rw [World.cell?_setCell_other (h := ne 1 (by omega))]; exact h.c1, World.cell?_setCell_same _ _ _ h.c2,
    by rw [World.cell?_setCell_other (h := ne 3 (by omega))]; exact h.c3, fun j => by rw [World.frozen?_setCell]; exact h.fr j, h.bs.kept hk (fun k h => h.2), h.gp⟩
theorem Pag.setB {w : World} {g : Nat} {p : Dp} {n : Nat} {c : Int} {bv : Value} {bl : List Chg} (h : Pag w g p n c bv bl) {v : Value} {l : List Chg} (hv : Chs (fun k => ¬ p.mem k ∧ k ≠ g) w v l) : Pag (w.setCell ⟨g, 3, none⟩ v) g p n c v l := by
  have hk : Kp (only g) w (w.setCell ⟨g, 3, none⟩ v) := Kp.setCell _ _ _ _ rfl
  have ne : ∀ j, j ≠ 3 → (⟨g, 3, none⟩ : Addr) ≠ ⟨g, j, none⟩ := fun j hj he => hj (congrArg Addr.off he).symm
  exact ⟨by rw [World.cell?_setCell_other (h := ne 0 (by omega))]; exact h.c0, by rw [World.cell?_setCell_other (h := ne 1 (by omega))]; exact h.c1, by rw [World.cell?_setCell_other (h := ne 2 (by omega))]; exact h.c2,
    World.cell?_setCell_same _ _ _ h.c3, fun j => by rw [World.frozen?_setCell]; exact h.fr j, hv.kept hk (fun k h => h.2), h.gp⟩
end Go.Proofs.Ytmnedhlgplkfhaa

namespace Go.Proofs.Ytmnedhlgplkfhaa
open Go.RowKit
set_option linter.unusedVariables false

/-- A page of one byte. -/
def fillB (c : UInt8) : ByteArray := ⟨(List.replicate 256 c).toArray⟩
theorem fillB_size (c : UInt8) : (fillB c).size = 256 := by
  show (List.replicate 256 c).toArray.size = 256
  rw [List.size_toArray, List.length_replicate]
theorem make_page (w : World) : ∃ wa, (Instr.makeSlice 73 (.int .i64 256) (.int .i64 256)).run Try.prog w = .ok (.slice (some ⟨w.heap.size, 0, none⟩) 256 256) wa ∧ Own 5 wa w.heap.size (.slice (some ⟨w.heap.size, 0, none⟩) 256 256) (List.replicate 256 0) ∧ Kp none' w wa := by
  obtain ⟨i0, hi, hz0, hz1, hz2⟩ := info_parts infoU8
  obtain ⟨wa, hmk, hOa, hga⟩ := run_make_full (P := Try.prog) w w.heap.size 73 5 i0 _ 1 Try.underlying73 hi hz0 hz1 .i64 .i64 256 (by rw [hz2]; omega) (by unfold maxLen; omega) (Nat.le_refl _)
  refine ⟨wa, hmk, ?_, Kp.ofN hga _⟩
  have e : (madeCells (Value.int .u8 0).cells (256 * 1)).toList = bcs (List.replicate 256 0) := by
    show (madeCells #[Value.int .u8 0] (256 * 1)).toList = _
    rw [toList_madeCells_one]
    unfold bcs
    rw [List.map_replicate]
    rfl
  unfold Own
  rw [List.length_replicate, ← e]
  exact hOa
theorem set_nextU (c : UInt8) (k m : Nat) : (List.replicate k c ++ List.replicate (m + 1) 0).set k c = List.replicate (k + 1) c ++ List.replicate m 0 := by
  have hl : (List.replicate k c).length = k := List.length_replicate
  rw [List.set_append_right _ _ (by omega), hl, Nat.sub_self, List.replicate_succ, List.set_cons_zero, List.replicate_succ' , List.append_assoc]
  rfl
/-- How many pages. -/
def pagesN (n : Int) : Nat := 1 + (n % 18446744073709551616 % 40).toNat
theorem pagesN_le (n : Int) : 1 ≤ pagesN n ∧ pagesN n ≤ 40 := by unfold pagesN; omega
/-- How many calls a commit takes. -/
def callsN (n : Nat) : Nat := if n = 0 then 0 else 8 * n + 7
/-- Texts that lie in blocks of S. -/
def Txs (S : Nat → Prop) (w : World) (v : Value) (Q : List ByteArray) : Prop :=
  ∃ a c, v = .slice a Q.length c ∧ Q.length ≤ c ∧ c ≤ maxLen ∧ ∀ i (h : i < Q.length), ∃ b off, a = some ⟨b, off, none⟩ ∧ S b ∧ b < w.heap.size ∧ w.cell? ⟨b, off + i, none⟩ = some (.string Q[i])
theorem Txs.kept {S T : Nat → Prop} {w w' : World} {v : Value} {l : List ByteArray} (h : Txs S w v l) (hk : Kp T w w') (hS : ∀ k, S k → ¬ T k) : Txs S w' v l := by
  obtain ⟨a, c, rfl, h1, h2, h3⟩ := h
  refine ⟨a, c, rfl, h1, h2, fun i hi => ?_⟩
  obtain ⟨b, off, rfl, hb, hl, c0⟩ := h3 i hi
  exact ⟨b, off, rfl, hb, Nat.lt_of_lt_of_le hl hk.size, hk.cell c0 (hS b hb)⟩
theorem Txs.mono {S T : Nat → Prop} {w : World} {v : Value} {l : List ByteArray} (h : Txs S w v l) (hS : ∀ k, k < w.heap.size → S k → T k) : Txs T w v l := by
  obtain ⟨a, c, rfl, h1, h2, h3⟩ := h
  refine ⟨a, c, rfl, h1, h2, fun i hi => ?_⟩
  obtain ⟨b, off, rfl, hb, hl, c0⟩ := h3 i hi
  exact ⟨b, off, rfl, hS b hl hb, hl, c0⟩
theorem Ow.txs {w : World} {base : Nat} {v : Value} {l : List ByteArray} (h : Ow Value.string 9 w base v l) : Txs (fun k => base ≤ k) w v l := by
  have h' := h
  rcases h.2 with ⟨rfl, h0⟩ | ⟨g, cap, cur, rfl, hb, hg, h1, h2, _⟩
  · have : l = [] := List.eq_nil_of_length_eq_zero h0
    subst this
    exact ⟨none, 0, rfl, Nat.le_refl _, Nat.zero_le _, fun i h => absurd h (by simp)⟩
  · refine ⟨some ⟨g, 0, none⟩, cap, rfl, h1, h2, fun j hj => ⟨g, 0, rfl, hb, (Array.getElem?_eq_some_iff.1 hg).1, ?_⟩⟩
    have hc := World.ownsRow.cellAt (g := g) (cap := cap) h' j (by omega)
    rw [Nat.zero_add, hc]
    simp [hj]
/-- The document's pages, in blocks of S. -/
structure Pgl (S : Nat → Prop) (w : World) (r : Nat) (Q : List ByteArray) : Prop where
  i : ∃ lv, w.cell? ⟨r, 0, none⟩ = some lv ∧ Txs S w lv Q
  r : S r
theorem Pgl.kept {S T : Nat → Prop} {w w' : World} {r : Nat} {Q : List ByteArray} (h : Pgl S w r Q) (hk : Kp T w w') (hS : ∀ k, S k → ¬ T k) : Pgl S w' r Q := by
  obtain ⟨lv, h1, h2⟩ := h.i
  exact ⟨⟨lv, hk.cell h1 (hS r h.r), h2.kept hk hS⟩, h.r⟩
theorem Pgl.keptN {S : Nat → Prop} {w w' : World} {r : Nat} {Q : List ByteArray} (h : Pgl S w r Q) (hk : Kp none' w w') : Pgl S w' r Q := h.kept hk (fun _ _ h => h)
theorem Pgl.mono {S T : Nat → Prop} {w : World} {r : Nat} {Q : List ByteArray} (h : Pgl S w r Q) (hS : ∀ k, k < w.heap.size → S k → T k) : Pgl T w r Q := by
  obtain ⟨lv, h1, h2⟩ := h.i
  exact ⟨⟨lv, h1, h2.mono hS⟩, hS r (lt_of_cell h1) h.r⟩

theorem bytes_eq {x y : ByteArray} (h : x.toList = y.toList) : x = y := by
  rw [ByteArray.toList_eq, ByteArray.toList_eq] at h
  exact ByteArray.ext (Array.toList_inj.1 h)
/-- Has a pager just these pages? -/
def sameB (D : Dv) (bl : List Chg) (Q : List ByteArray) : Bool := decide (∀ i (h : i < Q.length), rdP D bl i = Q[i])
end Go.Proofs.Ytmnedhlgplkfhaa

namespace Go.Proofs.Ytmnedhlgplkfhaa
open Go.RowKit
set_option linter.unusedVariables false

theorem pstep_append {P : Program} {w : World} {ops : Array Oper} {o : Oper} {a : Act} {K : Act → World → Prop} {Q : Exit → Act → World → Prop} {E : Prop} (hgd : o.guard = none) (s x : Operand) (t tx : TypeId)
    (ho : o.op = .call { callee := .builtin .append, args := #[s, x], argTypes := #[t, tx] }) (base : Nat) (e : TypeId) (i : TypeInfo) (z : Value) (sz by_ : Nat) (ht : P.underlying t = some (.slice e)) (hi : P.info? e = some i) (hz : i.zero = some z) (hzc : z.cells.size = sz)
    (hsize : i.size = sz) (hby : i.bytes = by_) (v : Value) (n : Nat) (cs : List Value) (hs : a.eval s = v) (hown : w.ownsRow base e sz v n cs) (xv : Value) (m : Nat) (ds : List Value) (hx : a.eval x = xv) (hsrc : Src P sz tx xv m ds w) (hm : 0 < n + m)
    (hb : (n + m) * by_ ≤ 140737488355328) (hml : n + m ≤ maxLen) (hbase : base ≤ w.heap.size)
    (h : ∀ v' w', w'.ownsRow base e sz v' (n + m) (cs ++ ds) → w.grownBy w' v.ownBlock → (v'.ownBlock = v.ownBlock ∨ v'.ownBlock = some w.heap.size) → K (a.put o.dst v') w') :
    if Region.wanted o (yielded ops a.tmps) = true then Oper.wp P o a w K Q else E := by
  have hw : Region.wanted o (yielded ops a.tmps) = true := by simp [Region.wanted, hgd]
  rw [if_pos hw]
  exact wp_append_row w s x t tx ho base e i z sz by_ ht hi hz hzc hsize hby v n cs hs hown xv m ds hx hsrc hm hb hml hbase h
theorem pstep_append_at {P : Program} {w : World} {ops : Array Oper} {o : Oper} {a : Act} {K : Act → World → Prop} {Q : Exit → Act → World → Prop} {E : Prop} {d : Nat} (hgd : o.guard = none) (hdst : o.dst = some d) (s x : Operand) (t tx : TypeId)
    (ho : o.op = .call { callee := .builtin .append, args := #[s, x], argTypes := #[t, tx] }) (base : Nat) (e : TypeId) (i : TypeInfo) (z : Value) (sz by_ : Nat) (ht : P.underlying t = some (.slice e)) (hi : P.info? e = some i) (hz : i.zero = some z) (hzc : z.cells.size = sz)
    (hsize : i.size = sz) (hby : i.bytes = by_) (v : Value) (n : Nat) (cs : List Value) (hs : a.eval s = v) (hown : w.ownsRow base e sz v n cs) (xv : Value) (m : Nat) (ds : List Value) (hx : a.eval x = xv) (hsrc : Src P sz tx xv m ds w) (hm : 0 < n + m)
    (hb : (n + m) * by_ ≤ 140737488355328) (hml : n + m ≤ maxLen) (hbase : base ≤ w.heap.size)
    (h : ∀ v' w', w'.ownsRow base e sz v' (n + m) (cs ++ ds) → w.grownBy w' v.ownBlock → (v'.ownBlock = v.ownBlock ∨ v'.ownBlock = some w.heap.size) → K (a.put (some d) v') w') :
    if Region.wanted o (yielded ops a.tmps) = true then Oper.wp P o a w K Q else E := by
  exact pstep_append hgd s x t tx ho base e i z sz by_ ht hi hz hzc hsize hby v n cs hs hown xv m ds hx hsrc hm hb hml hbase (fun v' w' h1 h2 h3 => by rw [hdst]; exact h v' w' h1 h2 h3)
theorem prow_shape {w : World} {base sz n : Nat} {e : TypeId} {v : Value} {xs : List Value} (h : w.ownsRow base e sz v n xs) : ∃ a c, v = .slice a n c := by
  rcases h.2 with ⟨rfl, rfl⟩ | ⟨g, cap, cur, rfl, _⟩
  · exact ⟨none, 0, rfl⟩
  · exact ⟨_, cap, rfl⟩
theorem prow_kept {w w' : World} {base sz n : Nat} {e : TypeId} {v : Value} {xs : List Value} {S : Nat → Prop} (h : w.ownsRow base e sz v n xs) (hk : Kp S w w') (hS : ∀ k, v.ownBlock = some k → ¬ S k) : w'.ownsRow base e sz v n xs := by
  rcases h.2 with ⟨rfl, h0⟩ | ⟨g, cap, cur, rfl, hb, hg, h1, h2, h3, h4⟩
  · exact ⟨h.1, .inl ⟨rfl, h0⟩⟩
  · have hlt : g < w.heap.size := (Array.getElem?_eq_some_iff.1 hg).1
    exact ⟨h.1, .inr ⟨g, cap, cur, rfl, hb, by rw [hk.block g hlt (hS g rfl)]; exact hg, h1, h2, h3, h4⟩⟩
/-- The struct while New goes on. -/
structure Pn (w : World) (r : Nat) (a : Option Addr) (cap : Nat) (k : Nat) (Z : ByteArray) : Prop where
  c0 : w.cell? ⟨r, 0, none⟩ = some (.slice a k cap)
  fr : w.frozen? ⟨r, 0, none⟩ = false
  ow : w.ownsRow (r + 1) 9 1 (.slice a k cap) k (List.replicate k (.string Z))
/-- May changes be? -/
def rightE (n : Nat) (l : List Chg) : Int := if 31 < l.length then 3 else if allB n (l.map Chg.page) then (if (l.map Chg.page).Nodup then 0 else 1) else 7
theorem refE_right {n : Nat} {l : List Chg} (hn : n ≤ 160) (hd : ∀ c ∈ l, c.data.size = 256) : refE n [] l = rightE n l := by
  unfold refE rightE
  rw [if_neg (by simp)]
  by_cases h1 : 31 < l.length
  · rw [if_pos h1, if_pos h1]
  · rw [if_neg h1, if_neg h1]
    cases hall : allB n (l.map Chg.page) with
    | false => rfl
    | true =>
      rw [if_pos rfl, if_pos rfl, if_pos hd]
      have hA : ∀ z ∈ l.map Chg.page, 0 ≤ z ∧ z < 65536 := fun z hz => by
        unfold allB at hall
        rw [List.all_eq_true] at hall
        have := hall z hz
        simp [hasB] at this
        omega
      unfold wE okP
      rw [if_neg (by rw [List.length_map]; exact h1)]
      by_cases hnd : (l.map Chg.page).Nodup
      · rw [if_pos hnd, if_pos (by simp only [decide_eq_true_eq]; exact ⟨hA, hnd⟩)]
      · rw [if_neg hnd, if_neg (by simp only [decide_eq_true_eq]; exact fun h => hnd h.2)]
theorem right_ok {n : Nat} {l : List Chg} (h : rightE n l = 0) (hd : ∀ c ∈ l, c.data.size = 256) : okC n l := by
  unfold rightE at h
  by_cases h1 : 31 < l.length
  · rw [if_pos h1] at h; cases h
  · rw [if_neg h1] at h
    cases hall : allB n (l.map Chg.page) with
    | false => rw [hall] at h; cases h
    | true =>
      rw [hall, if_pos rfl] at h
      by_cases hnd : (l.map Chg.page).Nodup
      · refine ⟨fun c hc => ?_, hd, hnd, by omega⟩
        unfold allB at hall
        rw [List.all_eq_true] at hall
        have := hall c.page (List.mem_map_of_mem hc)
        simpa [hasB] using this
      · rw [if_neg hnd] at h; cases h
theorem nodup_snoc {l : List Int} {z : Int} : (l ++ [z]).Nodup ↔ l.Nodup ∧ z ∉ l := by
  rw [List.nodup_append]
  simp
  intro _
  constructor
  · intro h hz; exact h z hz rfl
  · intro h a ha e; subst e; exact h ha
end Go.Proofs.Ytmnedhlgplkfhaa

namespace Go.Proofs.Ytmnedhlgplkfhaa
open Go.RowKit
set_option linter.unusedVariables false

theorem clean_look {n : Nat} {D : Dv} {Q : Nat → ByteArray} (hu : ∀ k, D.u k = none) (hC : Clean n D.s Q) (hQ : ∀ p, (Q p).size = 256) (p : Nat) (hp : p < n) : lookS D (placeN p) = Q p :=
  look_page (hQ p) (fun j hj => by rw [at_none hu]; exact hC.2 p hp j hj)
theorem clean_old {n : Nat} {D : Dv} {Q : Nat → ByteArray} {l : List Chg} (hu : ∀ k, D.u k = none) (hC : Clean n D.s Q) (hQ : ∀ p, (Q p).size = 256) (h : okC n l) : oldD D l = oldC Q l := by
  unfold oldD oldC
  refine List.map_congr_left (fun c hc => ?_)
  have := h.p c hc
  rw [clean_look hu hC hQ c.page.toNat (by omega)]
theorem clean_back {n : Nat} {D : Dv} {Q : Nat → ByteArray} (hu : ∀ k, D.u k = none) (hC : Clean n D.s Q) : D.back n = D ∧ D.backE n = 0 := by
  have h : says (D.at 0) = false := by rw [at_none hu]; exact hC.1
  constructor
  · unfold Dv.back
    rw [if_neg (by rw [h]; simp)]
  · unfold Dv.backE
    rw [if_neg (by rw [h]; simp)]
theorem rec_back {n : Nat} {D : Dv} {Q : Nat → ByteArray} (hn : D.n = 126 + 4 * n) (hu : ∀ k, D.u k = none) (hR : Rec n D.s Q) (hQ : ∀ p, (Q p).size = 256) :
    (D.backE n = 0 → Clean n (D.back n).s Q ∧ ∀ k, (D.back n).u k = none) ∧ (D.backE n ≠ 0 → D.backE n = 9 ∧ ∀ S, After (D.back n) S → Rec n S Q) ∧ (D.st = false → D.backE n = 0) := by
  rcases hR with hC | ⟨hy, L, hU⟩
  · obtain ⟨h1, h2⟩ := clean_back hu hC
    rw [h1, h2]
    exact ⟨fun _ => ⟨hC, hu⟩, fun h => absurd rfl h, fun _ => rfl⟩
  · have hy' : says (D.at 0) = true := by rw [at_none hu]; exact hy
    have he : dirE (D.at 1) = 0 := by rw [at_none hu]; exact hU.e
    have hl : dirL (D.at 1) = L := by rw [at_none hu]; exact hU.l
    have ha : allB n (dirL (D.at 1)) = true := by
      rw [hl]
      unfold allB
      rw [List.all_eq_true]
      intro z hz
      have := hU.r z hz
      simp [hasB]
      omega
    have hi : imgD D (dirL (D.at 1)) = imgC Q L := by
      rw [hl]
      refine List.ext_getElem (by rw [imgD_len]; simp [imgC]) fun k h1 h2 => ?_
      have hk : k < L.length := by rw [imgD_len] at h1; exact h1
      rw [imgD_at D L k hk]
      have e : lookS D (imageN k) = Q L[k].toNat := look_page (hQ _) (fun j hj => by rw [at_none hu]; exact hU.i k hk j hj)
      rw [e]
      simp [imgC]
    have hB : D.back n = D.go (stW (imgC Q L)) := by unfold Dv.back; rw [if_pos ⟨hy', he, ha⟩, hi]
    have hE : D.backE n = D.goE (stW (imgC Q L)) := by unfold Dv.backE; rw [if_pos hy', if_pos ⟨he, ha⟩, hi]
    obtain ⟨a, b⟩ := recover_pure n D Q L hn hu hy hU hQ
    rw [hB, hE]
    refine ⟨a, fun h => ⟨(goE_or _ D).resolve_left h, b h⟩, fun h => goE_free _ D h⟩
theorem back_n (D : Dv) (n : Nat) : (D.back n).n = D.n ∧ D.c ≤ (D.back n).c ∧ (D.back n).st = D.st := by
  unfold Dv.back
  split
  · have := go_n (stW (imgD D (dirL (D.at 1)))) D
    exact ⟨this.1, this.2.2.2.1, this.2.1⟩
  · exact ⟨rfl, Int.le_refl _, rfl⟩
theorem back_c {D : Dv} (n : Nat) : (D.back n).c ≤ D.c + 1100 := by
  unfold Dv.back
  split
  · rename_i h
    have h1 := (go_n (stW (imgD D (dirL (D.at 1)))) D).2.2.2.2
    have h2 := stW_len (imgD D (dirL (D.at 1)))
    have h3 := imgD_len D (dirL (D.at 1))
    have h4 : (dirL (D.at 1)).length ≤ 255 := rL_len _
    omega
  · omega
theorem fresh_clean (n N : Nat) : Clean n (fresh N).s (fun _ => fillB 0) := by
  refine ⟨by kernel_rfl, fun p hp j hj => ?_⟩
  show noughts = secL (fillB 0) j
  rw [secL_list]
  show noughts = ((List.replicate 256 (0 : UInt8)).drop (j * 64)).take 64
  rw [List.drop_replicate, List.take_replicate]
  unfold noughts
  congr 1
  omega
/-- What a pager that kept the pages of a commit tells. -/
theorem rdP_old {n : Nat} {D D' : Dv} {Q : Nat → ByteArray} {l : List Chg} (hu : ∀ k, D.u k = none) (hC : Clean n D.s Q) (hQ : ∀ p, (Q p).size = 256) (h : okC n l) (hD' : D' = D.go (cmW (oldC Q l) l)) (p : Nat) (hp : p < n) : rdP D' (oldC Q l) p = Q p := by
  unfold rdP
  cases hf : (oldC Q l).find? (fun c => c.page == (p : Int)) with
  | some c =>
    have h1 := List.find?_some hf
    have h2 := List.mem_of_find?_eq_some hf
    obtain ⟨d, hd, rfl⟩ := List.mem_map.1 h2
    simp at h1
    simp [h1]
  | none =>
    have hno : ∀ c ∈ l, c.page ≠ (p : Int) := fun c hc he => by
      rw [List.find?_eq_none] at hf
      have := hf ⟨c.page, Q c.page.toNat⟩ (by unfold oldC; exact List.mem_map_of_mem (f := fun c : Chg => (⟨c.page, Q c.page.toNat⟩ : Chg)) hc)
      simp [he] at this
    refine look_page (hQ p) (fun j hj => ?_)
    rw [hD', go_at_out, at_none hu]
    · exact hC.2 p hp j hj
    · intro x hx
      unfold cmW stW jrW at hx
      simp only [List.mem_append, List.mem_cons, List.not_mem_nil, or_false, List.cons_append, List.nil_append] at hx
      have hm := h.m
      have hol : (oldC Q l).length = l.length := by simp [oldC]
      have himg : Stp.wr (placeN p j) x ∉ imW 0 (oldC Q l) := fun hx => by
        obtain ⟨k, hk, j', hj', e, _⟩ := (mem_imW _ 0 _ _).1 hx
        unfold placeN imageN at e
        omega
      have hpl : Stp.wr (placeN p j) x ∉ plW l := fun hx => by
        obtain ⟨c, hc, j', hj', e, _⟩ := mem_plW.1 hx
        unfold placeN at e
        have := (h.p c hc).1
        exact hno c hc (by omega)
      have hw : ∀ (i : Nat) y, i < 126 → Stp.wr (placeN p j) x ≠ .wr i y := fun i y hi e => by
        have e1 := (Stp.wr_inj e).1
        unfold placeN at e1
        omega
      have hs : Stp.wr (placeN p j) x ≠ .sy := fun e => Stp.wr_sy e
      rcases hx with hx | hx | hx | hx | hx | hx | hx | hx | hx
      all_goals first | exact hw _ _ (by omega) hx | exact hs hx | exact himg hx | exact hpl hx | (rcases hx with hx | hx <;> first | exact hw _ _ (by omega) hx | exact hs hx | exact himg hx | exact hpl hx)

end Go.Proofs.Ytmnedhlgplkfhaa

namespace Go.Proofs.Ytmnedhlgplkfhaa
open Go.RowKit
set_option linter.unusedVariables false

/-- The pages with changes made, as a list. -/
def withL (Q : List ByteArray) (l : List Chg) : List ByteArray := l.foldl (fun Q c => Q.set c.page.toNat c.data) Q
theorem withL_len (l : List Chg) : ∀ Q, (withL Q l).length = Q.length := by
  induction l with
  | nil => intro Q; rfl
  | cons c l ih => intro Q; show (withL _ l).length = _; rw [ih, List.length_set]
theorem withL_take (Q : List ByteArray) (l : List Chg) (k : Nat) (h : k < l.length) : withL Q (l.take (k + 1)) = (withL Q (l.take k)).set l[k].page.toNat l[k].data := by
  rw [List.take_succ_eq_append_getElem h]
  unfold withL
  rw [List.foldl_append]
  rfl
/-- Pages by number. -/
def pgF (Q : List ByteArray) : Nat → ByteArray := fun p => Q.getD p (fillB 0)
theorem pgF_at (Q : List ByteArray) (p : Nat) (h : p < Q.length) : pgF Q p = Q[p] := by
  unfold pgF
  rw [List.getD_eq_getElem?_getD, List.getElem?_eq_getElem h]
  rfl
theorem pgF_size {Q : List ByteArray} (h : ∀ x ∈ Q, x.size = 256) (p : Nat) : (pgF Q p).size = 256 := by
  by_cases hp : p < Q.length
  · rw [pgF_at Q p hp]
    exact h _ (List.getElem_mem hp)
  · unfold pgF
    rw [List.getD_eq_getElem?_getD, List.getElem?_eq_none (by omega)]
    exact fillB_size 0
theorem withL_pgF (l : List Chg) : ∀ Q : List ByteArray, (∀ c ∈ l, 0 ≤ c.page ∧ c.page < Q.length) → pgF (withL Q l) = withC (pgF Q) l := by
  induction l with
  | nil => intro Q _; rfl
  | cons c l ih =>
    intro Q h
    show pgF (withL (Q.set c.page.toNat c.data) l) = withC (fun p => if (p : Int) = c.page then c.data else pgF Q p) l
    rw [ih _ (fun d hd => by rw [List.length_set]; exact h d (List.mem_cons_of_mem _ hd))]
    congr 1
    funext p
    have hc := h c List.mem_cons_self
    unfold pgF
    rw [List.getD_eq_getElem?_getD, List.getD_eq_getElem?_getD, List.getElem?_set]
    by_cases e : c.page.toNat = p
    · rw [if_pos e, if_pos (by omega), if_pos (by omega)]
      rfl
    · rw [if_neg e, if_neg (by omega)]
theorem withL_sizes {Q : List ByteArray} {l : List Chg} (hQ : ∀ x ∈ Q, x.size = 256) (hl : ∀ c ∈ l, c.data.size = 256) : ∀ x ∈ withL Q l, x.size = 256 := by
  induction l generalizing Q with
  | nil => exact hQ
  | cons c l ih =>
    show ∀ x ∈ withL (Q.set c.page.toNat c.data) l, x.size = 256
    refine ih (fun x hx => ?_) (fun d hd => hl d (List.mem_cons_of_mem _ hd))
    rcases List.mem_or_eq_of_mem_set hx with h | h
    · exact hQ x h
    · rw [h]; exact hl c List.mem_cons_self
end Go.Proofs.Ytmnedhlgplkfhaa
