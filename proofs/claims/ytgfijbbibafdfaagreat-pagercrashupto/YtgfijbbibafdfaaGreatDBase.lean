/- What a device is in memory: its five cells, its row of sectors, its map of sectors that aren't sure; what stays of it while other blocks are written. Definitions and laws for every program. -/
import Derived.Test.YtgfijbbibafdfaaGreatGBase
import Derived.Deep.MidRow
import Derived.Maps.RangeRun
namespace Go.Proofs.YtgfijbbibafdfaaGreat
open Go Go.RowKit
open Go.ChangeMaps (setBlock)
set_option linter.unusedVariables false

/-- The entries of a map of sectors: just those of u, no key twice, each with a stamp of its own. -/
structure Mp (u : Nat → Option (List UInt8)) (es : List MapEntry) (cl : Nat) : Prop where
  e1 : ∀ e ∈ es, ∃ (i : Nat) (x : List UInt8), u i = some x ∧ e.key = .int .i64 (i : Int) ∧ e.val = secV x
  e2 : ∀ (i : Nat) (x : List UInt8), u i = some x → ∃ e ∈ es, e.key = .int .i64 (i : Int)
  e3 : es.Pairwise (fun a b => a.key ≠ b.key)
  e4 : ∀ e ∈ es, e.born < cl
  e5 : (es.map (·.born)).Nodup
theorem Mp.nil (cl : Nat) : Mp (fun _ => none) [] cl := ⟨by simp, by simp, List.Pairwise.nil, by simp, by simp⟩

/-- Where a device lies: its struct, its row of sectors, its map. -/
structure Dp where
  d : Nat
  s : Nat
  m : Nat
/-- What a device is: how many sectors, what is sure, what isn't, how many calls, whether it stands still, from which call on. -/
structure Dv where
  n : Nat
  s : Nat → List UInt8
  u : Nat → Option (List UInt8)
  c : Int
  st : Bool
  f : Int
/-- Its blocks. -/
def Dp.mem (p : Dp) (k : Nat) : Prop := k = p.d ∨ k = p.s ∨ k = p.m
structure Dev (w : World) (p : Dp) (D : Dv) : Prop where
  c0 : w.cell? ⟨p.d, 0, none⟩ = some (.slice (some ⟨p.s, 0, none⟩) D.n D.n)
  c1 : w.cell? ⟨p.d, 1, none⟩ = some (.map (some p.m))
  c2 : w.cell? ⟨p.d, 2, none⟩ = some (.int .i64 D.c)
  c3 : w.cell? ⟨p.d, 3, none⟩ = some (.bool D.st)
  c4 : w.cell? ⟨p.d, 4, none⟩ = some (.int .i64 D.f)
  fd : ∀ j, w.frozen? ⟨p.d, j, none⟩ = false
  rs : ∀ i, i < D.n → w.rangeAt p.s (i * 64) (bcs (D.s i))
  ts : w.there p.s 0 (D.n * 64)
  ls : p.s < w.heap.size
  mp : ∃ es cl, w.heap[p.m]? = some (.map es cl) ∧ Mp D.u es.toList cl
  ds : p.d ≠ p.s
  dm : p.d ≠ p.m
  sm : p.s ≠ p.m
  n4 : D.n ≤ 4096
  l1 : ∀ i, i < D.n → (D.s i).length = 64
  l2 : ∀ i x, D.u i = some x → i < D.n ∧ x.length = 64
theorem Dev.ld {w : World} {p : Dp} {D : Dv} (h : Dev w p D) : p.d < w.heap.size := lt_of_cell h.c0
theorem Dev.lm {w : World} {p : Dp} {D : Dv} (h : Dev w p D) : p.m < w.heap.size := by
  obtain ⟨es, cl, hm, _⟩ := h.mp
  exact (Array.getElem?_eq_some_iff.1 hm).1
theorem Dev.lt {w : World} {p : Dp} {D : Dv} (h : Dev w p D) : ∀ k, p.mem k → k < w.heap.size := by
  rintro k (rfl | rfl | rfl)
  · exact h.ld
  · exact h.ls
  · exact h.lm
/-- It stays while other blocks are written. -/
theorem Dev.kept {w w' : World} {p : Dp} {D : Dv} {S : Nat → Prop} (h : Dev w p D) (hk : Kp S w w') (hS : ∀ k, p.mem k → ¬ S k) : Dev w' p D := by
  have hd : ¬ S p.d := hS _ (.inl rfl)
  have hs : ¬ S p.s := hS _ (.inr (.inl rfl))
  have hm : ¬ S p.m := hS _ (.inr (.inr rfl))
  obtain ⟨es, cl, h1, h2⟩ := h.mp
  exact ⟨hk.cell h.c0 hd, hk.cell h.c1 hd, hk.cell h.c2 hd, hk.cell h.c3 hd, hk.cell h.c4 hd, fun j => by rw [hk.frozen h.ld hd]; exact h.fd j,
    fun i hi => hk.rangeAt (h.rs i hi) hs, hk.there h.ts hs, Nat.lt_of_lt_of_le h.ls hk.size, ⟨es, cl, by rw [hk.block _ h.lm hm]; exact h1, h2⟩, h.ds, h.dm, h.sm, h.n4, h.l1, h.l2⟩
theorem Dev.keptN {w w' : World} {p : Dp} {D : Dv} (h : Dev w p D) (hk : Kp none' w w') : Dev w' p D := h.kept hk (fun _ _ h => h)

end Go.Proofs.YtgfijbbibafdfaaGreat
