/- Contracts, over the turned program: the document's piece of work (factotumref08): what is read and written. Conditions: those that each theorem states. Contracts, over the turned program: the document's piece of work (factotumref08): its bits, Write, Drop. Conditions: those that each theorem states. Contracts, over the turned program: the document's piece of work (factotumref08): Take, Head, SetHead, Used. Conditions: those that each theorem states. Contracts, over the turned program: the document's piece of work (factotumref08): SetHead. Conditions: those that the theorem states. -/
import Derived.Test.YtmnedhlgplkfhaaJS1
import Derived.Test.YtmnedhlgplkfhaaJK1
import Derived.Test.YtmnedhlgplkfhaaJP3
import Derived.Lib.ConvBytes
import Derived.BigRegion
import Derived.Deep.RegionHeldLaw
import Derived.Deep.RegionLaw
namespace Go.Proofs.Ytmnedhlgplkfhaa
open Go.RowKit
set_option linter.unusedVariables false

/-- The document's piece of work in memory: at r; its pages now in the block gN, which nothing else of it shares. -/
structure Rw (w : World) (r gN : Nat) (G : Nat → Prop) (S : Sw) : Prop where
  c1 : ∃ cN, w.cell? ⟨r, 1, none⟩ = some (.slice (some ⟨gN, 0, none⟩) S.now.length cN) ∧ Ow Value.string 9 w 0 (.slice (some ⟨gN, 0, none⟩) S.now.length cN) S.now
  c2 : ∃ v vs, w.cell? ⟨r, 2, none⟩ = some v ∧ Ow (fun x : Value => x) 37 w 0 v vs ∧ (∀ k, v.ownBlock = some k → G k ∧ k ≠ r ∧ k ≠ gN) ∧ vs.length = S.notes.length ∧
    (∀ i (h : i < vs.length) (h' : i < S.notes.length), Txs (fun k => G k ∧ k ≠ r ∧ k ≠ gN ∧ v.ownBlock ≠ some k) w vs[i] S.notes[i]) ∧
    ∃ bv, w.cell? ⟨r, 0, none⟩ = some bv ∧ Txs (fun k => G k ∧ k ≠ r ∧ k ≠ gN ∧ v.ownBlock ≠ some k) w bv S.base
  c3 : w.cell? ⟨r, 3, none⟩ = some (.bool S.over)
  fr : ∀ j, w.frozen? ⟨r, j, none⟩ = false
  gg : G gN ∧ gN ≠ r
  l0 : 0 < S.now.length
  l1 : S.now.length ≤ 160
  sz : ∀ x ∈ S.now, x.size = 256
  bl : S.base.length = S.now.length
  nt : ∀ q ∈ S.notes, q.length = S.base.length ∧ ∀ x ∈ q, x.size = 256
theorem Rw.lt {w : World} {r gN : Nat} {G : Nat → Prop} {S : Sw} (h : Rw w r gN G S) : r < w.heap.size := lt_of_cell h.c3
theorem pg0_size {w : World} {r gN : Nat} {G : Nat → Prop} {S : Sw} (h : Rw w r gN G S) : (pg0 S.now).size = 256 := by
  have := h.l0
  unfold pg0
  rw [List.getD_eq_getElem?_getD, List.getElem?_eq_getElem this]
  exact h.sz _ (List.getElem_mem this)
theorem Rw.now0 {w : World} {r gN : Nat} {G : Nat → Prop} {S : Sw} (h : Rw w r gN G S) : w.cell? ⟨gN, 0, none⟩ = some (.string (pg0 S.now)) := by
  obtain ⟨cN, _, hO⟩ := h.c1
  obtain ⟨a, c, he, hc⟩ := hO.open
  cases he
  obtain ⟨g, he, _, hcell⟩ := hc 0 h.l0
  cases he
  rw [hcell]
  unfold pg0
  rw [List.getD_eq_getElem?_getD, List.getElem?_eq_getElem h.l0]
  rfl
theorem tmod_bit (a k : Nat) : (((a : Int) / 2 ^ k).tmod 2 == 1) = (a / 2 ^ k % 2 == 1) := by
  have e : ((a : Int) / 2 ^ k) = ((a / 2 ^ k : Nat) : Int) := by simp
  have h0 : (0 : Int) ≤ ((a / 2 ^ k : Nat) : Int) := Int.natCast_nonneg _
  rw [e, Int.tmod_eq_emod_of_nonneg h0]
  generalize a / 2 ^ k = x
  have e2 : ((x : Int) % 2) = ((x % 2 : Nat) : Int) := by omega
  rw [e2]
  generalize x % 2 = y
  by_cases hy : y = 1
  · subst hy; rfl
  · have h1 : (y == 1) = false := by simpa using hy
    have h2 : ((y : Int) == 1) = false := by
      have : (y : Int) ≠ 1 := by omega
      simpa using this
    rw [h1, h2]
theorem byteAt_get {p : ByteArray} {i : Nat} (h : i < p.size) : byteAt p i = p[i] := by
  unfold byteAt
  have h' : i < p.data.toList.length := by simpa using h
  rw [List.getD_eq_getElem?_getD, List.getElem?_eq_getElem h']
  simp
  rfl
theorem Rw.nowAt {w : World} {r gN : Nat} {G : Nat → Prop} {S : Sw} (h : Rw w r gN G S) (n : Nat) (hn : n < S.now.length) : w.cell? ⟨gN, n, none⟩ = some (.string (S.now.getD n ⟨#[]⟩)) := by
  obtain ⟨cN, _, hO⟩ := h.c1
  obtain ⟨a, c, he, hc⟩ := hO.open
  cases he
  obtain ⟨g, he, _, hcell⟩ := hc n hn
  cases he
  rw [hcell, List.getD_eq_getElem?_getD, List.getElem?_eq_getElem hn]
  rfl
end Go.Proofs.Ytmnedhlgplkfhaa

namespace Go.Proofs.Ytmnedhlgplkfhaa
open Go.RowKit
set_option linter.unusedVariables false

theorem sb_frozen (w : World) (e : TypeId) (s : ByteArray) (j : Nat) (hj : j < s.size) : (Lib.bytesWorld w e s).frozen? ⟨w.heap.size, j, none⟩ = false := by
  unfold World.frozen?
  rw [Lib.bytesWorld_at_new]
  have : s.size ≤ (Lib.bytesCells w e s).size := by simp [Lib.bytesCells]
  simp
  omega
theorem sb_set (w : World) (e : TypeId) (s : ByteArray) (m : Nat) (hm : m < s.size) (c : UInt8) (j : Nat) (hj : j < s.size) :
    ((Lib.bytesWorld w e s).setCell ⟨w.heap.size, m, none⟩ (.int .u8 (c.toNat : Int))).cell? ⟨w.heap.size, j, none⟩ = some (.int .u8 (((s.data.toList.set m c).getD j 0).toNat : Int)) := by
  have hl : s.data.toList.length = s.size := by rw [Array.length_toList]; rfl
  by_cases h : m = j
  · subst h
    rw [World.cell?_setCell_same (w := Lib.bytesWorld w e s) (h := Lib.bytesWorld_cell w e s m hj)]
    simp [List.getD_eq_getElem?_getD, hl, hj]
  · have hne : (⟨w.heap.size, m, none⟩ : Addr) ≠ ⟨w.heap.size, j, none⟩ := by
      intro he
      exact h (congrArg Addr.off he)
    rw [World.cell?_setCell_other (h := hne), Lib.bytesWorld_cell w e s j hj]
    simp [List.getD_eq_getElem?_getD, h]
/-- A text's bytes, one of them turned, a text again. -/
theorem conv_set (p : ByteArray) (m : Nat) (c : UInt8) (hm : m < p.size) (w : World) : ∃ W1 cap,
    (convert 9 73 (.string p)).run Try.prog w = .ok (.slice (some ⟨w.heap.size, 0, none⟩) p.size cap) W1 ∧ W1.cell? ⟨w.heap.size, m, none⟩ = some (.int .u8 ((byteAt p m).toNat : Int)) ∧ W1.frozen? ⟨w.heap.size, m, none⟩ = false ∧ Kp none' w W1 ∧ w.heap.size < W1.heap.size ∧
    ∀ W2, Kp none' (W1.setCell ⟨w.heap.size, m, none⟩ (.int .u8 (c.toNat : Int))) W2 → (convert 73 9 (.slice (some ⟨w.heap.size, 0, none⟩) p.size cap)).run Try.prog W2 = .ok (.string ⟨(p.data.toList.set m c).toArray⟩) W2 := by
  have hcv := Lib.run_convert_string_bytes (P := Try.prog) w 9 73 5 p Try.underlying9 Try.underlying73 Try.underlying5
  have hcl := Lib.bytesWorld_cell w 5 p m hm
  have hl : p.data.toList.length = p.size := by rw [Array.length_toList]; rfl
  refine ⟨Lib.bytesWorld w 5 p, grownCap w p.size 0 5, hcv, hcl, sb_frozen w 5 p m hm, ⟨rfl, rfl, rfl, by rw [Lib.bytesWorld_size]; omega, fun k hk _ => Lib.bytesWorld_at_old w 5 p k hk⟩, by rw [Lib.bytesWorld_size]; omega, fun W2 hk => ?_⟩
  have h := run_convert_bytes_back (P := Try.prog) W2 73 9 5 ⟨w.heap.size, 0, none⟩ (grownCap w p.size 0 5) (p.data.toList.set m c) Try.underlying73 Try.underlying5 Try.underlying9 (fun j hj => by
    have hj' : j < p.size := by rw [List.length_set, hl] at hj; exact hj
    have h1 := hk.cell (sb_set w 5 p m hm c j hj') (fun h => h)
    rw [List.getD_eq_getElem?_getD, List.getElem?_eq_getElem hj] at h1
    have e : (⟨w.heap.size, 0, none⟩ : Addr).add j = ⟨w.heap.size, j, none⟩ := by unfold Addr.add; split <;> simp_all
    rw [e]
    exact h1)
  rw [List.length_set, hl] at h
  exact h
theorem Ow.storedS {w : World} {g n cap : Nat} {l : List ByteArray} (h : Ow Value.string 9 w 0 (.slice (some ⟨g, 0, none⟩) n cap) l) (j : Nat) (x : ByteArray) (hn : n = l.length) : Ow Value.string 9 (w.setCell ⟨g, j, none⟩ (.string x)) 0 (.slice (some ⟨g, 0, none⟩) n cap) (l.set j x) := (Ow.stored h j x).1
/-- Another row of pages, in the same block. -/
theorem Rw.setNow {w w' : World} {r gN : Nat} {G : Nat → Prop} {S : Sw} (H : Rw w r gN G S) (n : Nat) (x : ByteArray) (hx : x.size = 256) (hp : Put w w' gN n (.string x)) (hn : n < S.now.length) (hO : ∀ cN, Ow Value.string 9 w 0 (.slice (some ⟨gN, 0, none⟩) S.now.length cN) S.now → Ow Value.string 9 w' 0 (.slice (some ⟨gN, 0, none⟩) S.now.length cN) (S.now.set n x)) :
    Rw w' r gN G { S with now := S.now.set n x } := by
  have hrg : ¬ only gN r := fun e => H.gg.2 (Eq.symm e)
  obtain ⟨cN, b1, b2⟩ := H.c1
  obtain ⟨u, us, d1, d2, d3, d4, d5, v, a1, a2⟩ := H.c2
  refine ⟨⟨cN, by dsimp only; rw [List.length_set]; exact hp.kp.cell b1 hrg, by dsimp only; rw [List.length_set]; exact hO cN b2⟩, ⟨u, us, hp.kp.cell d1 hrg, d2.kept hp.kp (fun k hk e => (d3 k hk).2.2 e), d3, d4, fun i h h' => (d5 i h h').kept hp.kp (fun k hk e => hk.2.2.1 e), v, hp.kp.cell a1 hrg, a2.kept hp.kp (fun k hk e => hk.2.2.1 e)⟩,
    hp.kp.cell H.c3 hrg, fun j => by rw [hp.fr]; exact H.fr j, H.gg, by dsimp only; rw [List.length_set]; exact H.l0, by dsimp only; rw [List.length_set]; exact H.l1, fun y hy => ?_, by dsimp only; rw [List.length_set]; exact H.bl, H.nt⟩
  rcases List.mem_or_eq_of_mem_set hy with h | h
  · exact H.sz y h
  · rw [h]; exact hx
theorem Rw.keptN {w w' : World} {r gN : Nat} {G : Nat → Prop} {S : Sw} (H : Rw w r gN G S) (hk : Kp none' w w') : Rw w' r gN G S := by
  obtain ⟨cN, b1, b2⟩ := H.c1
  obtain ⟨u, us, d1, d2, d3, d4, d5, v, a1, a2⟩ := H.c2
  exact ⟨⟨cN, hk.cell b1 (fun h => h), b2.keptN hk⟩, ⟨u, us, hk.cell d1 (fun h => h), d2.keptN hk, d3, d4, fun i h h' => (d5 i h h').kept hk (fun _ _ h => h), v, hk.cell a1 (fun h => h), a2.kept hk (fun _ _ h => h)⟩, hk.cell H.c3 (fun h => h), fun j => by rw [hk.frozen H.lt (fun h => h)]; exact H.fr j, H.gg, H.l0, H.l1, H.sz, H.bl, H.nt⟩
theorem bits_xor (b : UInt8) (k : Nat) (hk : k < 8) : bits .xor .u8 (b.toNat : Int) (2 ^ k % 256) = ((b ^^^ UInt8.ofNat (2 ^ k)).toNat : Int) := by
  have h : 2 ^ k < 256 := by
    have := Nat.pow_lt_pow_right (a := 2) (by omega) hk
    simpa using this
  have hx : b.toNat ^^^ 2 ^ k < 256 := Nat.xor_lt_two_pow (n := 8) b.toNat_lt h
  have e1 : ((2 : Int) ^ k % 256 % 2 ^ IntKind.u8.bits).toNat = 2 ^ k := by
    show ((2 : Int) ^ k % 256 % 256).toNat = 2 ^ k
    have : ((2 : Int) ^ k) = ((2 ^ k : Nat) : Int) := by simp
    rw [this]
    generalize 2 ^ k = y at h
    omega
  have e2 : b.toNat % 2 ^ IntKind.u8.bits = b.toNat := Nat.mod_eq_of_lt b.toNat_lt
  have e3 : 2 ^ k % 256 = 2 ^ k := Nat.mod_eq_of_lt h
  simp [bits]
  rw [e1, e2, e3]
  generalize b.toNat ^^^ 2 ^ k = x at hx
  show (x : Int) % 256 = (x : Int)
  omega
end Go.Proofs.Ytmnedhlgplkfhaa

namespace Go.Proofs.Ytmnedhlgplkfhaa
open Go.RowKit
set_option linter.unusedVariables false

theorem lowest_step (l : List ByteArray) (len n : Nat) (hn : n < len) (hu : isU l n = true) : lowest l (len - n) n = lowest l (len - (n + 1)) (n + 1) := by
  obtain ⟨k, hk⟩ : ∃ k, len - n = k + 1 := ⟨len - n - 1, by omega⟩
  rw [hk, show len - (n + 1) = k by omega]
  simp [lowest, hu]
theorem lowest_here (l : List ByteArray) (len n : Nat) (hn : n < len) (hu : isU l n = false) : lowest l (len - n) n = some n := by
  obtain ⟨k, hk⟩ : ∃ k, len - n = k + 1 := ⟨len - n - 1, by omega⟩
  rw [hk]
  simp [lowest, hu]
end Go.Proofs.Ytmnedhlgplkfhaa

namespace Go.Proofs.Ytmnedhlgplkfhaa
open Go.RowKit
set_option linter.unusedVariables false

theorem head_eq (p x : ByteArray) (rk : Nat) (hrk : 236 - x.size = rk) : p.extract 0 20 ++ x ++ (fillB 0).extract 0 rk = headP p x := by
  have e : (p.extract 0 20 ++ x ++ (fillB 0).extract 0 rk).data.toList = p.data.toList.take 20 ++ x.data.toList ++ List.replicate (236 - x.size) 0 := by
    rw [ByteArray.data_append, ByteArray.data_append, Array.toList_append, Array.toList_append, ext_list, ext_list, List.drop_zero, List.drop_zero, hrk]
    congr 1
    show (List.replicate 256 (0 : UInt8)).take (rk - 0) = _
    rw [List.take_replicate]
    congr 1
    omega
  unfold headP
  rw [← e]
theorem headP_size (p x : ByteArray) (hp : p.size = 256) (hx : x.size ≤ 236) : (headP p x).size = 256 := by
  have hl : p.data.toList.length = 256 := by rw [Array.length_toList]; exact hp
  have hl2 : x.data.toList.length = x.size := by rw [Array.length_toList]; rfl
  show (p.data.toList.take 20 ++ x.data.toList ++ List.replicate (236 - x.size) 0).toArray.size = 256
  rw [List.size_toArray, List.length_append, List.length_append, List.length_take, List.length_replicate, hl, hl2]
  omega
end Go.Proofs.Ytmnedhlgplkfhaa
