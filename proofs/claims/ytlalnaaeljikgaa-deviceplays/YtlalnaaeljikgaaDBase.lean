/- What a device is in memory: its five cells, its row of sectors, its map of sectors that aren't sure; what stays of it while other blocks are written. Definitions and laws for every program. -/
import Derived.Test.YtlalnaaeljikgaaChecked
import Derived.Test.YtlalnaaeljikgaaBytes
import Derived.Deep.MidRow
import Derived.Maps.RangeRun
namespace Go.Proofs.Ytlalnaaeljikgaa
open Go Go.RowKit
open Go.ChangeMaps (setBlock)
set_option linter.unusedVariables false

/-- From w to w' nothing has turned but the blocks of S; new blocks may be there. -/
structure Kp (S : Nat → Prop) (w w' : World) : Prop where
  os : w'.os = w.os
  tape : w'.tape = w.tape
  output : w'.output = w.output
  size : w.heap.size ≤ w'.heap.size
  block : ∀ k, k < w.heap.size → ¬ S k → w'.heap[k]? = w.heap[k]?
/-- No block. -/
def none' : Nat → Prop := fun _ => False
theorem Kp.refl (S : Nat → Prop) (w : World) : Kp S w w := ⟨rfl, rfl, rfl, Nat.le_refl _, fun _ _ _ => rfl⟩
theorem Kp.trans {S S' S'' : Nat → Prop} {w w1 w2 : World} (h : Kp S w w1) (h' : Kp S' w1 w2) (h1 : ∀ k, k < w.heap.size → S k → S'' k) (h2 : ∀ k, k < w.heap.size → S' k → S'' k) : Kp S'' w w2 :=
  ⟨h'.os.trans h.os, h'.tape.trans h.tape, h'.output.trans h.output, Nat.le_trans h.size h'.size, fun k hk hn => by
    rw [h'.block k (Nat.lt_of_lt_of_le hk h.size) (fun hs => hn (h2 k hk hs)), h.block k hk (fun hs => hn (h1 k hk hs))]⟩
theorem Kp.then {S : Nat → Prop} {w w1 w2 : World} (h : Kp S w w1) (h' : Kp S w1 w2) : Kp S w w2 := h.trans h' (fun _ _ h => h) (fun _ _ h => h)
theorem Kp.thenN {S : Nat → Prop} {w w1 w2 : World} (h : Kp S w w1) (h' : Kp none' w1 w2) : Kp S w w2 := h.trans h' (fun _ _ h => h) (fun _ _ h => h.elim)
theorem Kp.nThen {S : Nat → Prop} {w w1 w2 : World} (h : Kp none' w w1) (h' : Kp S w1 w2) : Kp S w w2 := h.trans h' (fun _ _ h => h.elim) (fun _ _ h => h)
theorem Kp.mono {S S' : Nat → Prop} {w w1 : World} (h : Kp S w w1) (hs : ∀ k, k < w.heap.size → S k → S' k) : Kp S' w w1 :=
  ⟨h.os, h.tape, h.output, h.size, fun k hk hn => h.block k hk (fun hk' => hn (hs k hk hk'))⟩
theorem Kp.ofGrown {w w' : World} {row : Option Nat} (h : w.grownBy w' row) {S : Nat → Prop} (hr : ∀ k, row = some k → k < w.heap.size → S k) : Kp S w w' :=
  ⟨h.os, h.tape, h.output, h.size, fun k hk hn => h.block k hk (fun he => hn (hr k he.symm hk))⟩
theorem Kp.ofN {w w' : World} (h : w.grownBy w' none) (S : Nat → Prop) : Kp S w w' := .ofGrown h (fun _ he _ => by cases he)
theorem Kp.grown {w w' : World} (h : Kp none' w w') : w.grownBy w' none := ⟨h.os, h.tape, h.output, h.size, fun k hk _ => h.block k hk (fun hf => hf)⟩
theorem Kp.alloc (S : Nat → Prop) (w : World) (o : Obj) : Kp S w (w.alloc o) := .ofN (World.grownBy_alloc w o none) S
theorem Kp.drew (S : Nat → Prop) (w : World) : Kp S w w.drew := ⟨rfl, rfl, rfl, Nat.le_refl _, fun _ _ _ => rfl⟩
theorem Kp.setCell {S : Nat → Prop} (w : World) (b o : Nat) (v : Value) (hb : S b) : Kp S w (w.setCell ⟨b, o, none⟩ v) :=
  ⟨rfl, rfl, rfl, by simp, fun k _ hk => heap_setCell_other w _ k _ (fun hh => hk (by subst hh; exact hb))⟩
theorem Kp.setCells {S : Nat → Prop} (b : Nat) (hb : S b) : ∀ (vs : List Value) (o : Nat) (w : World), Kp S w (w.setCells b o vs)
  | [], _, w => .refl S w
  | v :: r, o, w => (Kp.setCell w b o v hb).then (Kp.setCells b hb r (o + 1) _)
theorem Kp.setBlock {S : Nat → Prop} (w : World) (b : Nat) (o : Obj) (hb : S b) : Kp S w (setBlock w b o) :=
  ⟨rfl, rfl, rfl, by simp [ChangeMaps.setBlock], fun k _ hk => by
    unfold ChangeMaps.setBlock
    have : b ≠ k := fun e => hk (e ▸ hb)
    simp [this]⟩
theorem Kp.cell {S : Nat → Prop} {w w' : World} (h : Kp S w w') {b o : Nat} {v : Value} (hc : w.cell? ⟨b, o, none⟩ = some v) (hb : ¬ S b) : w'.cell? ⟨b, o, none⟩ = some v := by
  have hlt : b < w.heap.size := by
    unfold World.cell? at hc
    split at hc
    · rename_i he
      exact (Array.getElem?_eq_some_iff.1 he).1
    · cases hc
  rw [World.cell?_of_block (w := w) (h.block b hlt hb)]
  exact hc
theorem lt_of_cell {w : World} {b o : Nat} {v : Value} (hc : w.cell? ⟨b, o, none⟩ = some v) : b < w.heap.size := by
  unfold World.cell? at hc
  split at hc
  · rename_i he
    exact (Array.getElem?_eq_some_iff.1 he).1
  · cases hc
theorem Kp.frozen {S : Nat → Prop} {w w' : World} (h : Kp S w w') {b o : Nat} (hl : b < w.heap.size) (hb : ¬ S b) : w'.frozen? ⟨b, o, none⟩ = w.frozen? ⟨b, o, none⟩ :=
  World.frozen?_of_block (h.block b hl hb)
theorem Kp.rangeAt {S : Nat → Prop} {w w' : World} (h : Kp S w w') {b o : Nat} {cs : List Value} (hc : w.rangeAt b o cs) (hb : ¬ S b) : w'.rangeAt b o cs := fun j v hv => h.cell (hc j v hv) hb
theorem Kp.there {S : Nat → Prop} {w w' : World} (h : Kp S w w') {b o n : Nat} (hc : w.there b o n) (hb : ¬ S b) : w'.there b o n := fun j hj => by
  obtain ⟨h1, h2⟩ := hc j hj
  obtain ⟨v, hv⟩ := Option.isSome_iff_exists.1 h1
  exact ⟨by rw [h.cell hv hb]; rfl, by rw [h.frozen (lt_of_cell hv) hb]; exact h2⟩

/-- A sector's value. -/
def secV (l : List UInt8) : Value := .agg (bcs l).toArray
theorem bcs_inj : ∀ {l k : List UInt8}, bcs l = bcs k → l = k
  | [], [], _ => rfl
  | [], _ :: _, h => by simp [bcs] at h
  | _ :: _, [], h => by simp [bcs] at h
  | a :: l, b :: k, h => by
    simp only [bcs, List.map_cons, List.cons.injEq, Value.int.injEq, true_and] at h
    obtain ⟨h1, h2⟩ := h
    have e : a = b := UInt8.toNat_inj.1 (by omega)
    rw [e, bcs_inj (l := l) (k := k) h2]
theorem secV_inj {l k : List UInt8} (h : secV l = secV k) : l = k := by
  unfold secV at h
  have h1 := Value.agg.inj h
  exact bcs_inj (by simpa using congrArg Array.toList h1)

/-- The entries of a map of sectors: just those of u, no key twice, each with a stamp of its own. -/
structure Mp (u : Nat → Option (List UInt8)) (es : List MapEntry) (cl : Nat) : Prop where
  e1 : ∀ e ∈ es, ∃ (i : Nat) (x : List UInt8), u i = some x ∧ e.key = .int .i64 (i : Int) ∧ e.val = secV x
  e2 : ∀ (i : Nat) (x : List UInt8), u i = some x → ∃ e ∈ es, e.key = .int .i64 (i : Int)
  e3 : es.Pairwise (fun a b => a.key ≠ b.key)
  e4 : ∀ e ∈ es, e.born < cl
  e5 : (es.map (·.born)).Nodup
theorem Mp.nil (cl : Nat) : Mp (fun _ => none) [] cl := ⟨by simp, by simp, List.Pairwise.nil, by simp, by simp⟩

/-- Where a device lies: its struct, its row of sectors, its map. -/
structure Dp where
  d : Nat
  s : Nat
  m : Nat
/-- What a device is: how many sectors, what is sure, what isn't, how many calls, whether it stands still, from which call on. -/
structure Dv where
  n : Nat
  s : Nat → List UInt8
  u : Nat → Option (List UInt8)
  c : Int
  st : Bool
  f : Int
/-- Its blocks. -/
def Dp.mem (p : Dp) (k : Nat) : Prop := k = p.d ∨ k = p.s ∨ k = p.m
structure Dev (w : World) (p : Dp) (D : Dv) : Prop where
  c0 : w.cell? ⟨p.d, 0, none⟩ = some (.slice (some ⟨p.s, 0, none⟩) D.n D.n)
  c1 : w.cell? ⟨p.d, 1, none⟩ = some (.map (some p.m))
  c2 : w.cell? ⟨p.d, 2, none⟩ = some (.int .i64 D.c)
  c3 : w.cell? ⟨p.d, 3, none⟩ = some (.bool D.st)
  c4 : w.cell? ⟨p.d, 4, none⟩ = some (.int .i64 D.f)
  fd : ∀ j, w.frozen? ⟨p.d, j, none⟩ = false
  rs : ∀ i, i < D.n → w.rangeAt p.s (i * 64) (bcs (D.s i))
  ts : w.there p.s 0 (D.n * 64)
  ls : p.s < w.heap.size
  mp : ∃ es cl, w.heap[p.m]? = some (.map es cl) ∧ Mp D.u es.toList cl
  ds : p.d ≠ p.s
  dm : p.d ≠ p.m
  sm : p.s ≠ p.m
  n4 : D.n ≤ 4096
  l1 : ∀ i, i < D.n → (D.s i).length = 64
  l2 : ∀ i x, D.u i = some x → i < D.n ∧ x.length = 64
theorem Dev.ld {w : World} {p : Dp} {D : Dv} (h : Dev w p D) : p.d < w.heap.size := lt_of_cell h.c0
theorem Dev.lm {w : World} {p : Dp} {D : Dv} (h : Dev w p D) : p.m < w.heap.size := by
  obtain ⟨es, cl, hm, _⟩ := h.mp
  exact (Array.getElem?_eq_some_iff.1 hm).1
theorem Dev.lt {w : World} {p : Dp} {D : Dv} (h : Dev w p D) : ∀ k, p.mem k → k < w.heap.size := by
  rintro k (rfl | rfl | rfl)
  · exact h.ld
  · exact h.ls
  · exact h.lm
/-- It stays while other blocks are written. -/
theorem Dev.kept {w w' : World} {p : Dp} {D : Dv} {S : Nat → Prop} (h : Dev w p D) (hk : Kp S w w') (hS : ∀ k, p.mem k → ¬ S k) : Dev w' p D := by
  have hd : ¬ S p.d := hS _ (.inl rfl)
  have hs : ¬ S p.s := hS _ (.inr (.inl rfl))
  have hm : ¬ S p.m := hS _ (.inr (.inr rfl))
  obtain ⟨es, cl, h1, h2⟩ := h.mp
  exact ⟨hk.cell h.c0 hd, hk.cell h.c1 hd, hk.cell h.c2 hd, hk.cell h.c3 hd, hk.cell h.c4 hd, fun j => by rw [hk.frozen h.ld hd]; exact h.fd j,
    fun i hi => hk.rangeAt (h.rs i hi) hs, hk.there h.ts hs, Nat.lt_of_lt_of_le h.ls hk.size, ⟨es, cl, by rw [hk.block _ h.lm hm]; exact h1, h2⟩, h.ds, h.dm, h.sm, h.n4, h.l1, h.l2⟩
theorem Dev.keptN {w w' : World} {p : Dp} {D : Dv} (h : Dev w p D) (hk : Kp none' w w') : Dev w' p D := h.kept hk (fun _ _ h => h)

end Go.Proofs.Ytlalnaaeljikgaa
