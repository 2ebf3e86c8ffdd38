/- Contracts, over the turned program: the document's piece of work (factotumref08): what is read and written. Conditions: those that each theorem states. Contracts, over the turned program: the document's piece of work (factotumref08): its bits, Write, Drop. Conditions: those that each theorem states. Contracts, over the turned program: the document's piece of work (factotumref08): Take, Head, SetHead, Used. Conditions: those that each theorem states. Contracts, over the turned program: the document's piece of work (factotumref08): SetHead. Conditions: those that the theorem states. -/
import Derived.Test.YtmnedhlgplkfhaaGreatJS1
import Derived.Test.YtmnedhlgplkfhaaGreatJK1
import Derived.Test.YtmnedhlgplkfhaaGreatJP3
import Derived.Lib.ConvBytes
import Derived.BigRegion
import Derived.Deep.RegionHeldLaw
import Derived.Deep.RegionLaw
namespace Go.Proofs.YtmnedhlgplkfhaaGreat
open Go.RowKit
set_option linter.unusedVariables false

/-- The document's piece of work in memory: at r; its pages now in the block gN, which nothing else of it shares. -/
structure Rw (w : World) (r gN : Nat) (G : Nat → Prop) (S : Sw) : Prop where
  c1 : ∃ cN, w.cell? ⟨r, 1, none⟩ = some (.slice (some ⟨gN, 0, none⟩) S.now.length cN) ∧ Ow Value.string 9 w 0 (.slice (some ⟨gN, 0, none⟩) S.now.length cN) S.now
  c2 : ∃ v vs, w.cell? ⟨r, 2, none⟩ = some v ∧ Ow (fun x : Value => x) 43 w 0 v vs ∧ (∀ k, v.ownBlock = some k → G k ∧ k ≠ r ∧ k ≠ gN) ∧ vs.length = S.notes.length ∧
    (∀ i (h : i < vs.length) (h' : i < S.notes.length), Txs (fun k => G k ∧ k ≠ r ∧ k ≠ gN ∧ v.ownBlock ≠ some k) w vs[i] S.notes[i]) ∧
    ∃ bv, w.cell? ⟨r, 0, none⟩ = some bv ∧ Txs (fun k => G k ∧ k ≠ r ∧ k ≠ gN ∧ v.ownBlock ≠ some k) w bv S.base
  c3 : w.cell? ⟨r, 3, none⟩ = some (.bool S.over)
  fr : ∀ j, w.frozen? ⟨r, j, none⟩ = false
  gg : G gN ∧ gN ≠ r
  l0 : 0 < S.now.length
  l1 : S.now.length ≤ 160
  sz : ∀ x ∈ S.now, x.size = 256
  bl : S.base.length = S.now.length
  nt : ∀ q ∈ S.notes, q.length = S.base.length ∧ ∀ x ∈ q, x.size = 256
theorem Rw.lt {w : World} {r gN : Nat} {G : Nat → Prop} {S : Sw} (h : Rw w r gN G S) : r < w.heap.size := lt_of_cell h.c3
theorem pg0_size {w : World} {r gN : Nat} {G : Nat → Prop} {S : Sw} (h : Rw w r gN G S) : (pg0 S.now).size = 256 := by
  have := h.l0
  unfold pg0
  rw [List.getD_eq_getElem?_getD, List.getElem?_eq_getElem this]
  exact h.sz _ (List.getElem_mem this)
theorem Rw.now0 {w : World} {r gN : Nat} {G : Nat → Prop} {S : Sw} (h : Rw w r gN G S) : w.cell? ⟨gN, 0, none⟩ = some (.string (pg0 S.now)) := by
  obtain ⟨cN, _, hO⟩ := h.c1
  obtain ⟨a, c, he, hc⟩ := hO.open
  cases he
  obtain ⟨g, he, _, hcell⟩ := hc 0 h.l0
  cases he
  rw [hcell]
  unfold pg0
  rw [List.getD_eq_getElem?_getD, List.getElem?_eq_getElem h.l0]
  rfl
theorem tmod_bit (a k : Nat) : (((a : Int) / 2 ^ k).tmod 2 == 1) = (a / 2 ^ k % 2 == 1) := by
  have e : ((a : Int) / 2 ^ k) = ((a / 2 ^ k : Nat) : Int) := by simp
  have h0 : (0 : Int) ≤ ((a / 2 ^ k : Nat) : Int) := Int.natCast_nonneg _
  rw [e, Int.tmod_eq_emod_of_nonneg h0]
  generalize a / 2 ^ k = x
  have e2 : ((x : Int) % 2) = ((x % 2 : Nat) : Int) := by omega
  rw [e2]
  generalize x % 2 = y
  by_cases hy : y = 1
  · subst hy; rfl
  · have h1 : (y == 1) = false := by simpa using hy
    have h2 : ((y : Int) == 1) = false := by
      have : (y : Int) ≠ 1 := by omega
      simpa using this
    rw [h1, h2]
theorem byteAt_get {p : ByteArray} {i : Nat} (h : i < p.size) : byteAt p i = p[i] := by
  unfold byteAt
  have h' : i < p.data.toList.length := by simpa using h
  rw [List.getD_eq_getElem?_getD, List.getElem?_eq_getElem h']
  simp
  rfl
set_option maxRecDepth 100000 in
set_option maxHeartbeats 800000 in
theorem risUsed_any (r gN n : Nat) (G : Nat → Prop) (S : Sw) (w : World) (H : Rw w r gN G S) (hn : n < 160) :
    Calls Tryz.prog 45 #[.pointer (some ⟨r, 0, none⟩), .int .i64 (n : Int)] w fun e w' => e = .returned (.bool (isU S.now n)) ∧ w' = w := by
  obtain ⟨cN, c1, _⟩ := H.c1
  have d0 := H.now0
  have hs := pg0_size H
  have hl0 : (0 : Int) < (S.now.length : Int) := by have := H.l0; omega
  obtain ⟨p, HP⟩ : ∃ p, Hid (pg0 S.now = p) := ⟨_, rfl⟩
  have HU : Hid (isU S.now n = (n == 0 || bitOf p n)) := by show _ = _; unfold isU; rw [HP.out]
  rw [HP.out] at d0 hs
  rw [HU.out]
  obtain ⟨ln, HL⟩ : ∃ ln, Hid (S.now.length = ln) := ⟨_, rfl⟩
  rw [HL.out] at c1 hl0
  by_cases h0 : n = 0
  · subst h0
    go_enter Tryz.func45, Tryz.ntmps45
    go_wp2
    go_ret
    exact ⟨rfl, rfl⟩
  · have hz : ((n : Int) == 0) = false := by
      have : (n : Int) ≠ 0 := by omega
      simpa using this
    go_enter Tryz.func45, Tryz.ntmps45
    go_wp2
    go_ret
    have hsz : n / 8 < p.size := by omega
    have hb := tmod_bit p[n / 8].toNat (n % 8)
    have h0' : (n == 0) = false := by simpa using h0
    refine ⟨?_, rfl⟩
    unfold bitOf
    rw [byteAt_get hsz, h0', Bool.false_or]
    exact congrArg (fun b => Ending.returned (Value.bool b)) hb
set_option maxRecDepth 100000 in
set_option maxHeartbeats 800000 in
theorem rthere_any (r gN : Nat) (z : Int) (G : Nat → Prop) (S : Sw) (w : World) (H : Rw w r gN G S) :
    Calls Tryz.prog 63 #[.pointer (some ⟨r, 0, none⟩), .int .i64 z] w fun e w' => e = .returned (.bool (thereS S.now z)) ∧ w' = w := by
  obtain ⟨cN, c1, _⟩ := H.c1
  have hl1 := H.l1
  obtain ⟨ln, HL⟩ : ∃ ln, Hid (S.now.length = ln) := ⟨_, rfl⟩
  have HT : Hid (thereS S.now z = (decide (0 < z ∧ z < (ln : Int)) && isU S.now z.toNat)) := by show _ = _; unfold thereS; rw [HL.out]
  rw [HT.out]
  rw [HL.out] at c1 hl1
  by_cases h0 : 0 < z
  · by_cases h1 : z < (ln : Int)
    · obtain ⟨n, rfl⟩ : ∃ n : Nat, z = (n : Int) := ⟨z.toNat, by omega⟩
      have hu := risUsed_any r gN n G S w H (by omega)
      rw [decide_eq_true (⟨h0, h1⟩ : 0 < (n : Int) ∧ (n : Int) < (ln : Int)), Bool.true_and, Int.toNat_natCast]
      obtain ⟨U, HU⟩ : ∃ U, Hid (isU S.now n = U) := ⟨_, rfl⟩
      rw [HU.out] at hu ⊢
      go_enter Tryz.func63, Tryz.ntmps63
      go_wp2_with (first
        | (go_at_call 45; refine hu.mono ?_; rintro e w' ⟨rfl, rfl⟩)
        | fail)
      go_ret
      exact ⟨rfl, rfl⟩
    · rw [decide_eq_false (fun h => h1 h.2), Bool.false_and]
      go_enter Tryz.func63, Tryz.ntmps63
      go_wp2
      go_ret
      exact ⟨rfl, rfl⟩
  · rw [decide_eq_false (fun h => h0 h.1), Bool.false_and]
    go_enter Tryz.func63, Tryz.ntmps63
    go_wp2
    go_ret
    exact ⟨rfl, rfl⟩
theorem Rw.nowAt {w : World} {r gN : Nat} {G : Nat → Prop} {S : Sw} (h : Rw w r gN G S) (n : Nat) (hn : n < S.now.length) : w.cell? ⟨gN, n, none⟩ = some (.string (S.now.getD n ⟨#[]⟩)) := by
  obtain ⟨cN, _, hO⟩ := h.c1
  obtain ⟨a, c, he, hc⟩ := hO.open
  cases he
  obtain ⟨g, he, _, hcell⟩ := hc n hn
  cases he
  rw [hcell, List.getD_eq_getElem?_getD, List.getElem?_eq_getElem hn]
  rfl
set_option maxRecDepth 100000 in
set_option maxHeartbeats 800000 in
theorem rsread_any (r gN : Nat) (z : Int) (G : Nat → Prop) (S : Sw) (w : World) (H : Rw w r gN G S) :
    Calls Tryz.prog 34 #[.pointer (some ⟨r, 0, none⟩), .int .i64 z] w fun e w' => e = .returned (.tuple #[.string (S.read z).1, .int .i64 (S.read z).2]) ∧ w' = w := by
  obtain ⟨cN, c1, _⟩ := H.c1
  have c3 := H.c3
  have hth := rthere_any r gN z G S w H
  unfold Sw.read
  cases hov : S.over with
  | true =>
    rw [hov] at c3
    go_enter Tryz.func34, Tryz.ntmps34
    go_wp2
    go_ret2
    exact ⟨rfl, rfl⟩
  | false =>
    rw [hov] at c3
    cases ht : thereS S.now z with
    | false =>
      rw [ht] at hth
      go_enter Tryz.func34, Tryz.ntmps34
      go_wp2_with (first
        | (go_at_call 63; refine hth.mono ?_; rintro e w' ⟨rfl, rfl⟩)
        | fail)
      go_ret2
      exact ⟨rfl, rfl⟩
    | true =>
      rw [ht] at hth
      have hz : 0 < z ∧ z < (S.now.length : Int) := by
        unfold thereS at ht
        rw [Bool.and_eq_true, decide_eq_true_iff] at ht
        exact ht.1
      obtain ⟨n, rfl⟩ : ∃ n : Nat, z = (n : Int) := ⟨z.toNat, by omega⟩
      have hn : n < S.now.length := by omega
      have d0 := H.nowAt n hn
      have hni : (n : Int) < (S.now.length : Int) := hz.2
      clear hz ht
      obtain ⟨ln, HL⟩ : ∃ ln, Hid (S.now.length = ln) := ⟨_, rfl⟩
      rw [HL.out] at c1 hni
      obtain ⟨X, HX⟩ : ∃ X, Hid (S.now.getD n ⟨#[]⟩ = X) := ⟨_, rfl⟩
      rw [HX.out] at d0
      simp only [Bool.false_eq_true, if_false, if_true, Int.toNat_natCast]
      rw [HX.out]
      go_enter Tryz.func34, Tryz.ntmps34
      go_wp2_with (first
        | (go_at_call 63; refine hth.mono ?_; rintro e w' ⟨rfl, rfl⟩)
        | fail)
      go_ret2
      exact ⟨rfl, rfl⟩

end Go.Proofs.YtmnedhlgplkfhaaGreat

namespace Go.Proofs.YtmnedhlgplkfhaaGreat
open Go.RowKit
set_option linter.unusedVariables false

theorem sb_frozen (w : World) (e : TypeId) (s : ByteArray) (j : Nat) (hj : j < s.size) : (Lib.bytesWorld w e s).frozen? ⟨w.heap.size, j, none⟩ = false := by
  unfold World.frozen?
  rw [Lib.bytesWorld_at_new]
  have : s.size ≤ (Lib.bytesCells w e s).size := by simp [Lib.bytesCells]
  simp
  omega
theorem sb_set (w : World) (e : TypeId) (s : ByteArray) (m : Nat) (hm : m < s.size) (c : UInt8) (j : Nat) (hj : j < s.size) :
    ((Lib.bytesWorld w e s).setCell ⟨w.heap.size, m, none⟩ (.int .u8 (c.toNat : Int))).cell? ⟨w.heap.size, j, none⟩ = some (.int .u8 (((s.data.toList.set m c).getD j 0).toNat : Int)) := by
  have hl : s.data.toList.length = s.size := by rw [Array.length_toList]; rfl
  by_cases h : m = j
  · subst h
    rw [World.cell?_setCell_same (w := Lib.bytesWorld w e s) (h := Lib.bytesWorld_cell w e s m hj)]
    simp [List.getD_eq_getElem?_getD, hl, hj]
  · have hne : (⟨w.heap.size, m, none⟩ : Addr) ≠ ⟨w.heap.size, j, none⟩ := by
      intro he
      exact h (congrArg Addr.off he)
    rw [World.cell?_setCell_other (h := hne), Lib.bytesWorld_cell w e s j hj]
    simp [List.getD_eq_getElem?_getD, h]
/-- A text's bytes, one of them turned, a text again. -/
theorem conv_set (p : ByteArray) (m : Nat) (c : UInt8) (hm : m < p.size) (w : World) : ∃ W1 cap,
    (convert 9 98 (.string p)).run Tryz.prog w = .ok (.slice (some ⟨w.heap.size, 0, none⟩) p.size cap) W1 ∧ W1.cell? ⟨w.heap.size, m, none⟩ = some (.int .u8 ((byteAt p m).toNat : Int)) ∧ W1.frozen? ⟨w.heap.size, m, none⟩ = false ∧ Kp none' w W1 ∧ w.heap.size < W1.heap.size ∧
    ∀ W2, Kp none' (W1.setCell ⟨w.heap.size, m, none⟩ (.int .u8 (c.toNat : Int))) W2 → (convert 98 9 (.slice (some ⟨w.heap.size, 0, none⟩) p.size cap)).run Tryz.prog W2 = .ok (.string ⟨(p.data.toList.set m c).toArray⟩) W2 := by
  have hcv := Lib.run_convert_string_bytes (P := Tryz.prog) w 9 98 5 p Tryz.underlying9 Tryz.underlying98 Tryz.underlying5
  have hcl := Lib.bytesWorld_cell w 5 p m hm
  have hl : p.data.toList.length = p.size := by rw [Array.length_toList]; rfl
  refine ⟨Lib.bytesWorld w 5 p, grownCap w p.size 0 5, hcv, hcl, sb_frozen w 5 p m hm, ⟨rfl, rfl, rfl, by rw [Lib.bytesWorld_size]; omega, fun k hk _ => Lib.bytesWorld_at_old w 5 p k hk⟩, by rw [Lib.bytesWorld_size]; omega, fun W2 hk => ?_⟩
  have h := run_convert_bytes_back (P := Tryz.prog) W2 98 9 5 ⟨w.heap.size, 0, none⟩ (grownCap w p.size 0 5) (p.data.toList.set m c) Tryz.underlying98 Tryz.underlying5 Tryz.underlying9 (fun j hj => by
    have hj' : j < p.size := by rw [List.length_set, hl] at hj; exact hj
    have h1 := hk.cell (sb_set w 5 p m hm c j hj') (fun h => h)
    rw [List.getD_eq_getElem?_getD, List.getElem?_eq_getElem hj] at h1
    have e : (⟨w.heap.size, 0, none⟩ : Addr).add j = ⟨w.heap.size, j, none⟩ := by unfold Addr.add; split <;> simp_all
    rw [e]
    exact h1)
  rw [List.length_set, hl] at h
  exact h
theorem Ow.storedS {w : World} {g n cap : Nat} {l : List ByteArray} (h : Ow Value.string 9 w 0 (.slice (some ⟨g, 0, none⟩) n cap) l) (j : Nat) (x : ByteArray) (hn : n = l.length) : Ow Value.string 9 (w.setCell ⟨g, j, none⟩ (.string x)) 0 (.slice (some ⟨g, 0, none⟩) n cap) (l.set j x) := (Ow.stored h j x).1
/-- Another row of pages, in the same block. -/
theorem Rw.setNow {w w' : World} {r gN : Nat} {G : Nat → Prop} {S : Sw} (H : Rw w r gN G S) (n : Nat) (x : ByteArray) (hx : x.size = 256) (hp : Put w w' gN n (.string x)) (hn : n < S.now.length) (hO : ∀ cN, Ow Value.string 9 w 0 (.slice (some ⟨gN, 0, none⟩) S.now.length cN) S.now → Ow Value.string 9 w' 0 (.slice (some ⟨gN, 0, none⟩) S.now.length cN) (S.now.set n x)) :
    Rw w' r gN G { S with now := S.now.set n x } := by
  have hrg : ¬ only gN r := fun e => H.gg.2 (Eq.symm e)
  obtain ⟨cN, b1, b2⟩ := H.c1
  obtain ⟨u, us, d1, d2, d3, d4, d5, v, a1, a2⟩ := H.c2
  refine ⟨⟨cN, by dsimp only; rw [List.length_set]; exact hp.kp.cell b1 hrg, by dsimp only; rw [List.length_set]; exact hO cN b2⟩, ⟨u, us, hp.kp.cell d1 hrg, d2.kept hp.kp (fun k hk e => (d3 k hk).2.2 e), d3, d4, fun i h h' => (d5 i h h').kept hp.kp (fun k hk e => hk.2.2.1 e), v, hp.kp.cell a1 hrg, a2.kept hp.kp (fun k hk e => hk.2.2.1 e)⟩,
    hp.kp.cell H.c3 hrg, fun j => by rw [hp.fr]; exact H.fr j, H.gg, by dsimp only; rw [List.length_set]; exact H.l0, by dsimp only; rw [List.length_set]; exact H.l1, fun y hy => ?_, by dsimp only; rw [List.length_set]; exact H.bl, H.nt⟩
  rcases List.mem_or_eq_of_mem_set hy with h | h
  · exact H.sz y h
  · rw [h]; exact hx
theorem Rw.keptN {w w' : World} {r gN : Nat} {G : Nat → Prop} {S : Sw} (H : Rw w r gN G S) (hk : Kp none' w w') : Rw w' r gN G S := by
  obtain ⟨cN, b1, b2⟩ := H.c1
  obtain ⟨u, us, d1, d2, d3, d4, d5, v, a1, a2⟩ := H.c2
  exact ⟨⟨cN, hk.cell b1 (fun h => h), b2.keptN hk⟩, ⟨u, us, hk.cell d1 (fun h => h), d2.keptN hk, d3, d4, fun i h h' => (d5 i h h').kept hk (fun _ _ h => h), v, hk.cell a1 (fun h => h), a2.kept hk (fun _ _ h => h)⟩, hk.cell H.c3 (fun h => h), fun j => by rw [hk.frozen H.lt (fun h => h)]; exact H.fr j, H.gg, H.l0, H.l1, H.sz, H.bl, H.nt⟩
theorem bits_xor (b : UInt8) (k : Nat) (hk : k < 8) : bits .xor .u8 (b.toNat : Int) (2 ^ k % 256) = ((b ^^^ UInt8.ofNat (2 ^ k)).toNat : Int) := by
  have h : 2 ^ k < 256 := by
    have := Nat.pow_lt_pow_right (a := 2) (by omega) hk
    simpa using this
  have hx : b.toNat ^^^ 2 ^ k < 256 := Nat.xor_lt_two_pow (n := 8) b.toNat_lt h
  have e1 : ((2 : Int) ^ k % 256 % 2 ^ IntKind.u8.bits).toNat = 2 ^ k := by
    show ((2 : Int) ^ k % 256 % 256).toNat = 2 ^ k
    have : ((2 : Int) ^ k) = ((2 ^ k : Nat) : Int) := by simp
    rw [this]
    generalize 2 ^ k = y at h
    omega
  have e2 : b.toNat % 2 ^ IntKind.u8.bits = b.toNat := Nat.mod_eq_of_lt b.toNat_lt
  have e3 : 2 ^ k % 256 = 2 ^ k := Nat.mod_eq_of_lt h
  simp [bits]
  rw [e1, e2, e3]
  generalize b.toNat ^^^ 2 ^ k = x at hx
  show (x : Int) % 256 = (x : Int)
  omega
set_option maxRecDepth 100000 in
set_option maxHeartbeats 800000 in
theorem rturn_any (r gN n : Nat) (G : Nat → Prop) (S : Sw) (w : World) (H : Rw w r gN G S) (hn : n < 160) :
    Calls Tryz.prog 64 #[.pointer (some ⟨r, 0, none⟩), .int .i64 (n : Int)] w fun e w' => e = .returned (.tuple #[]) ∧ Rw w' r gN G { S with now := turnL S.now n } ∧ Kp (only gN) w w' := by
  obtain ⟨cN, c1, _⟩ := H.c1
  have d0 := H.now0
  have hs := pg0_size H
  have hl0 : (0 : Int) < (S.now.length : Int) := by have := H.l0; omega
  obtain ⟨p, HP⟩ : ∃ p, Hid (pg0 S.now = p) := ⟨_, rfl⟩
  have HT : Hid (turnL S.now n = S.now.set 0 (turnS p n)) := by show _ = _; unfold turnL; rw [HP.out]
  rw [HP.out] at d0 hs
  obtain ⟨W1, cap, hcv, hcl, hfz, hk1, hsz1, hback⟩ := conv_set p (n / 8) (byteAt p (n / 8) ^^^ UInt8.ofNat (2 ^ (n % 8))) (by omega) w
  rw [hs] at hcv hback
  obtain ⟨B, HB⟩ : ∃ B, Hid (w.heap.size = B) := ⟨_, rfl⟩
  rw [HB.out] at hcv hcl hfz hback hsz1
  obtain ⟨ln, HL⟩ : ∃ ln, Hid (S.now.length = ln) := ⟨_, rfl⟩
  rw [HL.out] at c1 hl0
  have hn8 : ((n : Int) / 8) < 256 := by omega
  go_enter Tryz.func64, Tryz.ntmps64
  go_upto_region 2 with fail
  rw [bits_xor _ _ (Nat.mod_lt _ (by omega))]
  have p1 := Put.set W1 B (n / 8) (.int .u8 ((byteAt p (n / 8) ^^^ UInt8.ofNat (2 ^ (n % 8))).toNat : Int)) _ hcl
  have hb2 := hback _ (Kp.drew none' _)
  have HTS : Hid (turnS p n = ⟨(p.data.toList.set (n / 8) (byteAt p (n / 8) ^^^ UInt8.ofNat (2 ^ (n % 8)))).toArray⟩) := by show _ = _; rfl
  rw [← HTS.out] at hb2
  obtain ⟨W2, H2⟩ : ∃ W2, Hid (W1.setCell ⟨B, n / 8, none⟩ (.int .u8 ((byteAt p (n / 8) ^^^ UInt8.ofNat (2 ^ (n % 8))).toNat : Int)) = W2) := ⟨_, rfl⟩
  rw [H2.out] at p1 hb2 ⊢
  have kw : Kp none' w W2 := hk1.trans p1.kp (fun _ _ h => h) (fun k hk e => absurd hk (by have e' : k = B := e; have := HB.out; omega))
  have kwd := kw.then (Kp.drew none' W2)
  have H3 := H.keptN kwd
  have c1d := kwd.cell c1 (fun h => h)
  have d0d := H3.now0
  rw [HP.out] at d0d
  have fgd : W2.drew.frozen? ⟨gN, 0, none⟩ = false := by
    obtain ⟨cN', _, hO'⟩ := H3.c1
    exact ((hO'.cellAt 0 H.l0).2)
  obtain ⟨T, HTT⟩ : ∃ T, Hid (turnS p n = T) := ⟨_, rfl⟩
  rw [HTT.out] at hb2
  have p2 := Put.set W2.drew gN 0 (.string T) _ d0d
  have hfin : Rw (W2.drew.setCell ⟨gN, 0, none⟩ (.string T)) r gN G { S with now := S.now.set 0 T } := H3.setNow 0 T (by rw [← HTT.out, turnS_size]; exact hs) p2 H.l0 (fun cN hO => Ow.storedS hO 0 T rfl)
  have HFIN := hide hfin
  have HK2 := hide (kwd.nThen p2.kp)
  have HTL : Hid (turnL S.now n = S.now.set 0 T) := by show _ = _; rw [HT.out, HTT.out]
  clear hfin p2 H3 hback hcv hcl hfz p1 kw d0 H
  go_region
  all_goals go_wp2
  all_goals first | go_end0 | ((try simp only [Exit.inBlock, Exit.then]); refine bodyPost_ret (results_none rfl _ _ _) rfl ?_)
  all_goals exact ⟨rfl, by rw [HTL.out]; exact HFIN.out, HK2.out⟩
set_option maxRecDepth 100000 in
set_option maxHeartbeats 800000 in
theorem rdrop_any (r gN : Nat) (z : Int) (G : Nat → Prop) (S : Sw) (w : World) (H : Rw w r gN G S) :
    Calls Tryz.prog 38 #[.pointer (some ⟨r, 0, none⟩), .int .i64 z] w fun e w' => e = .returned (.int .i64 (S.dropE z)) ∧ Rw w' r gN G (S.drop z) ∧ Kp (only gN) w w' := by
  have c3 := H.c3
  have hth := rthere_any r gN z G S w H
  have hl1 := H.l1
  cases hov : S.over with
  | true =>
    have e1 : S.dropE z = 13 := by unfold Sw.dropE; rw [hov]; rfl
    have e2 : S.drop z = S := by unfold Sw.drop; rw [e1]; rfl
    rw [e1, e2]
    rw [hov] at c3
    have HH := hide H
    clear H
    go_enter Tryz.func38, Tryz.ntmps38
    go_wp2
    go_ret
    exact ⟨rfl, HH.out, Kp.refl _ _⟩
  | false =>
    rw [hov] at c3
    cases ht : thereS S.now z with
    | false =>
      have e1 : S.dropE z = 7 := by unfold Sw.dropE; rw [hov, ht]; rfl
      have e2 : S.drop z = S := by unfold Sw.drop; rw [e1]; rfl
      rw [e1, e2]
      rw [ht] at hth
      have HH := hide H
      clear H
      go_enter Tryz.func38, Tryz.ntmps38
      go_wp2_with (first
        | (go_at_call 63; refine hth.mono ?_; rintro e w' ⟨rfl, rfl⟩)
        | fail)
      go_ret
      exact ⟨rfl, HH.out, Kp.refl _ _⟩
    | true =>
      have e1 : S.dropE z = 0 := by unfold Sw.dropE; rw [hov, ht]; rfl
      have hz : 0 < z ∧ z < (S.now.length : Int) := by
        unfold thereS at ht
        rw [Bool.and_eq_true, decide_eq_true_iff] at ht
        exact ht.1
      obtain ⟨n, hzn⟩ : ∃ n : Nat, z = (n : Int) := ⟨z.toNat, by omega⟩
      subst hzn
      have e2 : S.drop (n : Int) = { S with now := turnL S.now n } := by unfold Sw.drop; rw [if_pos e1, Int.toNat_natCast]
      rw [e1, e2]
      rw [ht] at hth
      have htu := rturn_any r gN n G S w H (by omega)
      clear hz ht e1 e2 H
      go_enter Tryz.func38, Tryz.ntmps38
      go_wp2_with (first
        | (go_at_call 63; refine hth.mono ?_; rintro e w' ⟨rfl, rfl⟩)
        | (go_at_call 64; refine htu.mono ?_; rintro e w2 ⟨rfl, hR2, hk2⟩)
        | fail)
      go_ret
      exact ⟨rfl, hR2, hk2⟩
set_option maxRecDepth 100000 in
set_option maxHeartbeats 800000 in
theorem rswrite_any (r gN : Nat) (z : Int) (x : ByteArray) (G : Nat → Prop) (S : Sw) (w : World) (H : Rw w r gN G S) (hx : x.size ≤ 1000) :
    Calls Tryz.prog 36 #[.pointer (some ⟨r, 0, none⟩), .int .i64 z, .string x] w fun e w' => e = .returned (.int .i64 (S.writeE z x)) ∧ Rw w' r gN G (S.write z x) ∧ Kp (only gN) w w' := by
  have c3 := H.c3
  have hth := rthere_any r gN z G S w H
  have hl1 := H.l1
  cases hov : S.over with
  | true =>
    have e1 : S.writeE z x = 13 := by unfold Sw.writeE; rw [hov]; rfl
    have e2 : S.write z x = S := by unfold Sw.write; rw [e1]; rfl
    rw [e1, e2]
    rw [hov] at c3
    have HH := hide H
    clear H
    go_enter Tryz.func36, Tryz.ntmps36
    go_wp2
    go_ret
    exact ⟨rfl, HH.out, Kp.refl _ _⟩
  | false =>
    rw [hov] at c3
    cases ht : thereS S.now z with
    | false =>
      have e1 : S.writeE z x = 7 := by unfold Sw.writeE; rw [hov, ht]; rfl
      have e2 : S.write z x = S := by unfold Sw.write; rw [e1]; rfl
      rw [e1, e2]
      rw [ht] at hth
      have HH := hide H
      clear H
      go_enter Tryz.func36, Tryz.ntmps36
      go_wp2_with (first
        | (go_at_call 63; refine hth.mono ?_; rintro e w' ⟨rfl, rfl⟩)
        | fail)
      go_ret
      exact ⟨rfl, HH.out, Kp.refl _ _⟩
    | true =>
      have hz : 0 < z ∧ z < (S.now.length : Int) := by
        unfold thereS at ht
        rw [Bool.and_eq_true, decide_eq_true_iff] at ht
        exact ht.1
      by_cases h256 : x.size = 256
      · have e1 : S.writeE z x = 0 := by unfold Sw.writeE; rw [hov, ht, if_pos h256]; rfl
        obtain ⟨n, hzn⟩ : ∃ n : Nat, z = (n : Int) := ⟨z.toNat, by omega⟩
        subst hzn
        have e2 : S.write (n : Int) x = { S with now := S.now.set n x } := by unfold Sw.write; rw [if_pos e1, Int.toNat_natCast]
        rw [e1, e2]
        rw [ht] at hth
        have hnl : n < S.now.length := by omega
        have hni : (n : Int) < (S.now.length : Int) := hz.2
        obtain ⟨cN, c1, hO⟩ := H.c1
        have d0 := (hO.cellAt n hnl).1
        have f0 := (hO.cellAt n hnl).2
        have p2 := Put.set w gN n (.string x) _ d0
        have HFIN := hide (H.setNow n x h256 p2 hnl (fun cN hO => Ow.storedS hO n x rfl))
        have HK := hide p2.kp
        have hxb : (((x.size : Nat) : Int) != 256) = false := by rw [h256]; rfl
        obtain ⟨ln, HL⟩ : ∃ ln, Hid (S.now.length = ln) := ⟨_, rfl⟩
        rw [HL.out] at c1 hni
        clear hz ht e1 e2 H hO p2 h256
        go_enter Tryz.func36, Tryz.ntmps36
        go_wp2_with (first
          | (go_at_call 63; refine hth.mono ?_; rintro e w' ⟨rfl, rfl⟩)
          | fail)
        go_ret
        exact ⟨rfl, HFIN.out, HK.out⟩
      · have e1 : S.writeE z x = 1 := by unfold Sw.writeE; rw [hov, ht, if_neg h256]; rfl
        have e2 : S.write z x = S := by unfold Sw.write; rw [e1]; rfl
        rw [e1, e2]
        rw [ht] at hth
        have hxb : (((x.size : Nat) : Int) != 256) = true := by
          have : ((x.size : Nat) : Int) ≠ 256 := by omega
          simpa using this
        have HH := hide H
        clear H hz ht
        go_enter Tryz.func36, Tryz.ntmps36
        go_wp2_with (first
          | (go_at_call 63; refine hth.mono ?_; rintro e w' ⟨rfl, rfl⟩)
          | fail)
        go_ret
        exact ⟨rfl, HH.out, Kp.refl _ _⟩

end Go.Proofs.YtmnedhlgplkfhaaGreat

namespace Go.Proofs.YtmnedhlgplkfhaaGreat
open Go.RowKit
set_option linter.unusedVariables false

theorem lowest_step (l : List ByteArray) (len n : Nat) (hn : n < len) (hu : isU l n = true) : lowest l (len - n) n = lowest l (len - (n + 1)) (n + 1) := by
  obtain ⟨k, hk⟩ : ∃ k, len - n = k + 1 := ⟨len - n - 1, by omega⟩
  rw [hk, show len - (n + 1) = k by omega]
  simp [lowest, hu]
theorem lowest_here (l : List ByteArray) (len n : Nat) (hn : n < len) (hu : isU l n = false) : lowest l (len - n) n = some n := by
  obtain ⟨k, hk⟩ : ∃ k, len - n = k + 1 := ⟨len - n - 1, by omega⟩
  rw [hk]
  simp [lowest, hu]
set_option maxRecDepth 100000 in
set_option maxHeartbeats 1600000 in
theorem rtake_any (r gN : Nat) (G : Nat → Prop) (S : Sw) (w : World) (H : Rw w r gN G S) :
    Calls Tryz.prog 37 #[.pointer (some ⟨r, 0, none⟩)] w fun e w' => e = .returned (.tuple #[.int .i64 S.takeE.1, .int .i64 S.takeE.2]) ∧ Rw w' r gN G (S.take (fillB 0)) ∧ Kp (only gN) w w' := by
  have c3 := H.c3
  have hl0 := H.l0
  have hl1 := H.l1
  cases hov : S.over with
  | true =>
    have e1 : S.takeE = (0, 13) := by unfold Sw.takeE; rw [hov]; rfl
    have e2 : S.take (fillB 0) = S := by unfold Sw.take; rw [hov]; rfl
    rw [e1, e2]
    rw [hov] at c3
    have HH := hide H
    clear H
    go_enter Tryz.func37, Tryz.ntmps37
    go_wp2
    go_ret2
    exact ⟨rfl, HH.out, Kp.refl _ _⟩
  | false =>
    rw [hov] at c3
    obtain ⟨cN, c1, hO⟩ := H.c1
    obtain ⟨ln, HL⟩ : ∃ ln, Hid (S.now.length = ln) := ⟨_, rfl⟩
    rw [HL.out] at c1 hl0 hl1
    have HFR : Hid (S.free = lowest S.now (ln - 1) 1) := by show _ = _; unfold Sw.free; rw [HL.out]
    have HE1 : Hid (∀ n, S.free = some n → S.takeE = ((n : Int), 0) ∧ S.take (fillB 0) = { S with now := (turnL S.now n).set n (fillB 0) }) := fun n hn => ⟨by unfold Sw.takeE; rw [hov, hn]; rfl, by unfold Sw.take; rw [hov, hn]; rfl⟩
    have HE2 : Hid (S.free = none → S.takeE = (0, 8) ∧ S.take (fillB 0) = S) := fun hn => ⟨by unfold Sw.takeE; rw [hov, hn]; rfl, by unfold Sw.take; rw [hov, hn]; rfl⟩
    obtain ⟨TE, HTE⟩ : ∃ TE, Hid (S.takeE = TE) := ⟨_, rfl⟩
    obtain ⟨TS, HTS⟩ : ∃ TS, Hid (S.take (fillB 0) = TS) := ⟨_, rfl⟩
    rw [HTE.out, HTS.out] at HE1 HE2
    rw [HTE.out, HTS.out]
    have HH := hide H
    clear H hO hov
    go_enter Tryz.func37, Tryz.ntmps37
    go_wp2
    go_loopw [4] (fun t wr => w = wr ∧ ∃ n : Nat, 1 ≤ n ∧ n ≤ ln ∧ t = .int .i64 n ∧ Hid (S.free = lowest S.now (ln - n) n)) (fun t _ => ln - (intOf t).toNat)
    case atStart => exact ⟨rfl, 1, Nat.le_refl _, by omega, rfl, HFR⟩
    case round =>
      obtain ⟨rfl, n, hn1, hn2, rfl, hF⟩ := hrel
      by_cases hlt : n < ln
      · have hni : (n : Int) < (ln : Int) := by omega
        have hiu := risUsed_any r gN n G S w HH.out (by omega)
        cases hu : isU S.now n with
        | true =>
          rw [hu] at hiu
          have hF2 : Hid (S.free = lowest S.now (ln - (n + 1)) (n + 1)) := by show _ = _; rw [hF.out]; exact lowest_step S.now ln n hlt hu
          clear hu hF
          go_wp2_with (first
            | (go_at_call 45; refine hiu.mono ?_; rintro e w' ⟨rfl, rfl⟩)
            | fail)
          go_roundw
          case rel => exact ⟨by first | trivial | rfl, n + 1, by omega, by omega, by go_num, hF2⟩
          case measure => simp [intOf]; omega
        | false =>
          rw [hu] at hiu
          have hfr : S.free = some n := by rw [hF.out]; exact lowest_here S.now ln n hlt hu
          have hends := HE1.out n hfr
          have htu := rturn_any r gN n G S w HH.out (by omega)
          clear hu hF hfr
          obtain ⟨Z, HZ⟩ : ∃ Z : ByteArray, Hid (fillB 0 = Z) := ⟨_, rfl⟩
          have hZs : Z.size = 256 := by rw [← HZ.out]; exact fillB_size 0
          rw [HZ.out] at hends
          go_upto_region 8 with (first
            | (go_at_call 45; refine hiu.mono ?_; rintro e w' ⟨rfl, rfl⟩)
            | (go_at_call 64; refine htu.mono ?_; rintro e w2 ⟨rfl, hR2, hk2⟩)
            | fail)
          have hln2 : (turnL S.now n).length = ln := by rw [turnL_len]; exact HL.out
          have t1 : w2.cell? ⟨r, 1, none⟩ = some (.slice (some ⟨gN, 0, none⟩) ln cN) := hk2.cell c1 (fun e => hR2.gg.2 (Eq.symm e))
          have t1d : w2.drew.cell? ⟨r, 1, none⟩ = some (.slice (some ⟨gN, 0, none⟩) ln cN) := t1
          have hze := zero_any w2.drew
          rw [HZ.out] at hze
          have HS : Hid (∀ W : World, Kp none' w2 W → (∃ x, W.cell? ⟨gN, n, none⟩ = some (.string x)) ∧ W.frozen? ⟨gN, n, none⟩ = false ∧ Rw (W.setCell ⟨gN, n, none⟩ (.string Z)) r gN G { S with now := (turnL S.now n).set n Z } ∧ Kp (only gN) W (W.setCell ⟨gN, n, none⟩ (.string Z))) := fun W hW => by
            have hR := hR2.keptN hW
            obtain ⟨cN', _, hO'⟩ := hR.c1
            have hc := hO'.cellAt n (by dsimp only; rw [hln2]; exact hlt)
            have pw := Put.set W gN n (.string Z) _ hc.1
            exact ⟨⟨_, hc.1⟩, hc.2, hR.setNow n Z hZs pw (by dsimp only; rw [hln2]; exact hlt) (fun cN hO => Ow.storedS hO n Z rfl), pw.kp⟩
          have kS : ∀ (W : World), W.cell? ⟨r, 1, none⟩ = some (.slice (some ⟨gN, 0, none⟩) ln cN) → (W.setCell ⟨gN, n, none⟩ (.string Z)).cell? ⟨r, 1, none⟩ = some (.slice (some ⟨gN, 0, none⟩) ln cN) := fun W h => (Kp.setCell (S := only gN) W gN n _ rfl).cell h (fun e => hR2.gg.2 (Eq.symm e))
          have HR2 := hide hR2
          clear hR2
          go_region_held_law (fun W => W.cell? ⟨r, 1, none⟩ = some (.slice (some ⟨gN, 0, none⟩) ln cN)) (first | assumption | exact kS _ (by assumption)) (first
            | (go_at_call 62; refine hze.mono ?_; rintro e w3 ⟨rfl, hk3⟩; have T3 := hk3.cell t1d (fun h => h); obtain ⟨⟨x3, x3c⟩, x3f, x3r, x3k⟩ := HS.out w3 ((Kp.drew none' w2).then hk3))
            | fail)
          have HX := hide x3r
          have HXK := hide ((hk2.thenN ((Kp.drew none' w2).then hk3)).then x3k)
          clear x3r x3k
          go_wp2
          go_ret2
          obtain ⟨g1, g2⟩ := hends
          exact ⟨by rw [g1]; rfl, by rw [g2]; exact HX.out, HXK.out⟩
      · have hnl : ln = n := by omega
        subst hnl
        have hfr : S.free = none := by rw [hF.out, Nat.sub_self]; rfl
        obtain ⟨g1, g2⟩ := HE2.out hfr
        clear hF hfr
        go_wp2
        go_ret2
        exact ⟨by rw [g1]; rfl, by rw [g2]; exact HH.out, Kp.refl _ _⟩
set_option maxRecDepth 100000 in
set_option maxHeartbeats 800000 in
theorem rhead_any (r gN : Nat) (G : Nat → Prop) (S : Sw) (w : World) (H : Rw w r gN G S) :
    Calls Tryz.prog 15 #[.pointer (some ⟨r, 0, none⟩)] w fun e w' => e = .returned (.string S.head) ∧ w' = w := by
  have c3 := H.c3
  unfold Sw.head
  cases hov : S.over with
  | true =>
    rw [hov] at c3
    go_enter Tryz.func15, Tryz.ntmps15
    go_wp2
    go_ret
    exact ⟨rfl, rfl⟩
  | false =>
    rw [hov] at c3
    obtain ⟨cN, c1, hO⟩ := H.c1
    have hl0 : (0 : Int) < (S.now.length : Int) := by have := H.l0; omega
    have d0 := H.now0
    have hs := pg0_size H
    obtain ⟨p, HP⟩ : ∃ p, Hid (pg0 S.now = p) := ⟨_, rfl⟩
    rw [HP.out] at d0 hs
    obtain ⟨ln, HL⟩ : ∃ ln, Hid (S.now.length = ln) := ⟨_, rfl⟩
    rw [HL.out] at c1 hl0
    simp only [Bool.false_eq_true, if_false]
    rw [HP.out]
    go_enter Tryz.func15, Tryz.ntmps15
    have HX : Hid (p.extract 20 256 = ⟨(p.data.toList.drop 20).toArray⟩) := by
      have hl : p.data.toList.length = 256 := by rw [Array.length_toList]; exact hs
      show _ = _
      have e : (p.extract 20 256).data.toList = p.data.toList.drop 20 := by
        rw [ext_list, List.take_of_length_le (by rw [List.length_drop, hl]; omega)]
      rw [← e]
    go_wp2
    go_ret
    exact ⟨by rw [← HX.out]; rfl, rfl⟩
set_option maxRecDepth 100000 in
set_option maxHeartbeats 800000 in
theorem rused_any (r gN : Nat) (G : Nat → Prop) (S : Sw) (w : World) (H : Rw w r gN G S) :
    Calls Tryz.prog 13 #[.pointer (some ⟨r, 0, none⟩)] w fun e w' => e = .returned (.int .i64 (S.usedN : Int)) ∧ w' = w := by
  have c3 := H.c3
  have hl1 := H.l1
  have hl0 := H.l0
  obtain ⟨cN, c1, hO⟩ := H.c1
  obtain ⟨ln, HL⟩ : ∃ ln, Hid (S.now.length = ln) := ⟨_, rfl⟩
  rw [HL.out] at c1 hl0 hl1
  cases hov : S.over with
  | true =>
    have e1 : S.usedN = 0 := by unfold Sw.usedN; rw [hov]; rfl
    rw [e1]
    rw [hov] at c3
    have hli : (0 : Int) < (ln : Int) := by omega
    go_enter Tryz.func13, Tryz.ntmps13
    go_wp2
    go_loopw [3, 4] (fun u t wr => w = wr ∧ u = .int .i64 0 ∧ t = .int .i64 0) (fun _ _ _ => 0)
    case atStart => exact ⟨rfl, rfl, rfl⟩
    case round =>
      obtain ⟨rfl, rfl, rfl⟩ := hrel
      go_wp2
      go_ret
      exact ⟨rfl, rfl⟩
  | false =>
    rw [hov] at c3
    have HE : Hid (S.usedN = ((List.range ln).filter (isU S.now)).length) := by show _ = _; unfold Sw.usedN; rw [hov, HL.out]; rfl
    rw [HE.out]
    have HIU : Hid (∀ n, n < ln → Calls Tryz.prog 45 #[.pointer (some ⟨r, 0, none⟩), .int .i64 (n : Int)] w fun e w' => e = .returned (.bool (isU S.now n)) ∧ w' = w) := fun n hn => risUsed_any r gN n G S w H (by omega)
    clear H hO hov
    go_enter Tryz.func13, Tryz.ntmps13
    go_wp2
    go_loopw [3, 4] (fun u t wr => w = wr ∧ ∃ k : Nat, k ≤ ln ∧ t = .int .i64 k ∧ ∃ m : Nat, u = .int .i64 m ∧ m ≤ k ∧ Hid (((List.range k).filter (isU S.now)).length = m)) (fun _ t _ => ln - (intOf t).toNat)
    case atStart => exact ⟨rfl, 0, Nat.zero_le _, rfl, 0, rfl, Nat.le_refl _, by show _ = _; simp⟩
    case round =>
      obtain ⟨rfl, k, hk, rfl, m, rfl, hmk, hm⟩ := hrel
      by_cases hlt : k < ln
      · have hki : (k : Int) < (ln : Int) := by omega
        have hiu := HIU.out k hlt
        have HM : Hid (((List.range (k + 1)).filter (isU S.now)).length = m + (if isU S.now k then 1 else 0)) := by
          show _ = _
          rw [List.range_succ, List.filter_append, List.length_append, hm.out]
          cases hq : isU S.now k <;> simp [hq]
        cases hu : isU S.now k with
        | true =>
          rw [hu] at hiu HM
          have HM2 : Hid (((List.range (k + 1)).filter (isU S.now)).length = m + 1) := HM
          clear hm hu HM
          go_wp2_with (first
            | (go_at_call 45; refine hiu.mono ?_; rintro e w' ⟨rfl, rfl⟩)
            | fail)
          go_roundw
          case rel => exact ⟨by first | trivial | rfl, k + 1, by omega, by go_num, m + 1, by go_num, by omega, HM2⟩
          case measure => simp [intOf]; omega
        | false =>
          rw [hu] at hiu HM
          have HM2 : Hid (((List.range (k + 1)).filter (isU S.now)).length = m) := HM
          clear hm hu HM
          go_wp2_with (first
            | (go_at_call 45; refine hiu.mono ?_; rintro e w' ⟨rfl, rfl⟩)
            | fail)
          go_roundw
          case rel => exact ⟨by first | trivial | rfl, k + 1, by omega, by go_num, m, rfl, by omega, HM2⟩
          case measure => simp [intOf]; omega
      · have hkl : ln = k := by omega
        subst hkl
        go_wp2
        go_ret
        exact ⟨by rw [hm.out]; rfl, rfl⟩

end Go.Proofs.YtmnedhlgplkfhaaGreat

namespace Go.Proofs.YtmnedhlgplkfhaaGreat
open Go.RowKit
set_option linter.unusedVariables false

theorem head_eq (p x : ByteArray) (rk : Nat) (hrk : 236 - x.size = rk) : p.extract 0 20 ++ x ++ (fillB 0).extract 0 rk = headP p x := by
  have e : (p.extract 0 20 ++ x ++ (fillB 0).extract 0 rk).data.toList = p.data.toList.take 20 ++ x.data.toList ++ List.replicate (236 - x.size) 0 := by
    rw [ByteArray.data_append, ByteArray.data_append, Array.toList_append, Array.toList_append, ext_list, ext_list, List.drop_zero, List.drop_zero, hrk]
    congr 1
    show (List.replicate 256 (0 : UInt8)).take (rk - 0) = _
    rw [List.take_replicate]
    congr 1
    omega
  unfold headP
  rw [← e]
theorem headP_size (p x : ByteArray) (hp : p.size = 256) (hx : x.size ≤ 236) : (headP p x).size = 256 := by
  have hl : p.data.toList.length = 256 := by rw [Array.length_toList]; exact hp
  have hl2 : x.data.toList.length = x.size := by rw [Array.length_toList]; rfl
  show (p.data.toList.take 20 ++ x.data.toList ++ List.replicate (236 - x.size) 0).toArray.size = 256
  rw [List.size_toArray, List.length_append, List.length_append, List.length_take, List.length_replicate, hl, hl2]
  omega
set_option maxRecDepth 100000 in
set_option maxHeartbeats 1600000 in
theorem rsetHead_any (r gN : Nat) (x : ByteArray) (G : Nat → Prop) (S : Sw) (w : World) (H : Rw w r gN G S) (hx : x.size ≤ 1000) :
    Calls Tryz.prog 39 #[.pointer (some ⟨r, 0, none⟩), .string x] w fun e w' => e = .returned (.int .i64 (S.setHeadE x)) ∧ Rw w' r gN G (S.setHead x) ∧ Kp (only gN) w w' := by
  have c3 := H.c3
  cases hov : S.over with
  | true =>
    have e1 : S.setHeadE x = 13 := by unfold Sw.setHeadE; rw [hov]; rfl
    have e2 : S.setHead x = S := by unfold Sw.setHead; rw [e1]; rfl
    rw [e1, e2]
    rw [hov] at c3
    have HH := hide H
    clear H
    go_enter Tryz.func39, Tryz.ntmps39
    go_wp2
    go_ret
    exact ⟨rfl, HH.out, Kp.refl _ _⟩
  | false =>
    rw [hov] at c3
    by_cases h236 : 236 < x.size
    · have e1 : S.setHeadE x = 3 := by unfold Sw.setHeadE; rw [hov, if_pos h236]; rfl
      have e2 : S.setHead x = S := by unfold Sw.setHead; rw [e1]; rfl
      rw [e1, e2]
      have hxi : (236 : Int) < ((x.size : Nat) : Int) := by omega
      have HH := hide H
      clear H
      go_enter Tryz.func39, Tryz.ntmps39
      go_wp2
      go_ret
      exact ⟨rfl, HH.out, Kp.refl _ _⟩
    · have e1 : S.setHeadE x = 0 := by unfold Sw.setHeadE; rw [hov, if_neg h236]; rfl
      have e2 : S.setHead x = { S with now := S.now.set 0 (headP (pg0 S.now) x) } := by unfold Sw.setHead; rw [if_pos e1]
      rw [e1, e2]
      have hxi : ¬ (236 : Int) < ((x.size : Nat) : Int) := by omega
      have hx236 : x.size ≤ 236 := by omega
      obtain ⟨cN, c1, hO⟩ := H.c1
      have hl0 : (0 : Int) < (S.now.length : Int) := by have := H.l0; omega
      have d0 := H.now0
      have hs := pg0_size H
      have hgr := H.gg.2
      have f0 := (hO.cellAt 0 H.l0).2
      obtain ⟨p, HP⟩ : ∃ p, Hid (pg0 S.now = p) := ⟨_, rfl⟩
      rw [HP.out] at d0 hs ⊢
      obtain ⟨ln, HL⟩ : ∃ ln, Hid (S.now.length = ln) := ⟨_, rfl⟩
      rw [HL.out] at c1 hl0
      obtain ⟨Z, HZ⟩ : ∃ Z : ByteArray, Hid (fillB 0 = Z) := ⟨_, rfl⟩
      have hZs : Z.size = 256 := by rw [← HZ.out]; exact fillB_size 0
      have hze := zero_any w.drew
      rw [HZ.out] at hze
      have c1d : w.drew.cell? ⟨r, 1, none⟩ = some (.slice (some ⟨gN, 0, none⟩) ln cN) := c1
      have d0d : w.drew.cell? ⟨gN, 0, none⟩ = some (.string p) := d0
      have HH := hide H
      have HF0 := hide f0
      clear H hO e1 e2 h236 hov
      go_enter Tryz.func39, Tryz.ntmps39
      go_upto_region 5 with fail
      have hl0n : 0 < ln := by omega
      obtain ⟨rk, HRK⟩ : ∃ rk : Nat, Hid (236 - x.size = rk) := ⟨_, rfl⟩
      have hwi : IntKind.i64.wrap (236 - ((x.size : Nat) : Int)) = (rk : Int) := by rw [← HRK.out, IntKind.wrap_i64]; omega
      have hrk : rk ≤ 236 := by have := HRK.out; omega
      have hrk2 : (rk : Int) ≤ 256 := by omega
      have hrk3 : rk ≤ 256 := by omega
      have hb1 : ¬ 9223372036854775807 < 20 + x.size := by omega
      have hb2 : ¬ 9223372036854775807 < 20 + x.size + rk := by omega
      have hb3 : ¬ 9223372036854775807 < 20 + x.size + min rk 256 := by omega
      go_region_law (first
        | (go_simp; go_at_call 62; refine hze.mono ?_; rintro e w3 ⟨rfl, hk3⟩; have c13 := hk3.cell c1d (fun h => h); have d03 := hk3.cell d0d (fun h => h); have f03 : w3.frozen? ⟨gN, 0, none⟩ = false := by rw [hk3.frozen (lt_of_cell d0d) (fun h => h)]; exact HF0.out)
        | fail)
      all_goals (
        have hR := HH.out.keptN ((Kp.drew none' w).then hk3)
        have pw := Put.set w3 gN 0 (.string (headP p x)) _ d03
        have HFIN := hide (hR.setNow 0 (headP p x) (headP_size p x hs hx236) pw HH.out.l0 (fun cN hO => Ow.storedS hO 0 (headP p x) rfl))
        have HKF := hide (((Kp.drew none' w).then hk3).nThen pw.kp)
        rw [← HZ.out, head_eq p x rk HRK.out]
        clear hR pw
        go_wp2
        go_ret
        exact ⟨rfl, HFIN.out, HKF.out⟩)

end Go.Proofs.YtmnedhlgplkfhaaGreat
