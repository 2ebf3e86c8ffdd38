/- Contract, over the turned program: a batch's changes. Conditions: those that the theorem states. Contract, over the turned program: the laws' lives. Conditions: those that the theorem states. A pager upon a device at rest: commits that may be or may not. Conditions: those that each theorem states. -/
import Derived.Test.YtmnedhlgplkfhaaGreatJP3
import Derived.Test.YtmnedhlgplkfhaaGreatJP2
namespace Go.Proofs.YtmnedhlgplkfhaaGreat
open Go.RowKit
set_option linter.unusedVariables false

def u8V (c : UInt8) : Value := .int .u8 (c.toNat : Int)
/-- A batch: where its two lists lie, and what they hold. -/
structure Bt where
  pv : Value
  ps : List Int
  bv : Value
  bs : List UInt8
def Bt.cells (b : Bt) : Array Value := #[b.pv, b.bv]
structure Bt.ok (b : Bt) (B : Nat) (w : World) : Prop where
  hp : Sl (Value.int .i64) B w b.pv b.ps
  hb : Sl u8V B w b.bv b.bs
  hi : i64s b.ps
theorem Bt.ok.kept {b : Bt} {B : Nat} {w w' : World} {S : Nat → Prop} (h : b.ok B w) (hk : Kp S w w') (hS : ∀ k, k < B → ¬ S k) : b.ok B w' := ⟨h.hp.kept hk hS, h.hb.kept hk hS, h.hi⟩
theorem Bt.ok.keptN {b : Bt} {B : Nat} {w w' : World} (h : b.ok B w) (hk : Kp none' w w') : b.ok B w' := h.kept hk (fun _ _ h => h)
/-- Its changes. -/
def chgL (ps : List Int) (bs : List UInt8) : List Chg := ps.mapIdx fun i z => ⟨z, fillB (bs.getD i (UInt8.ofNat i))⟩
theorem chgL_len (ps : List Int) (bs : List UInt8) : (chgL ps bs).length = ps.length := by simp [chgL]
theorem chgL_at (ps : List Int) (bs : List UInt8) (k : Nat) (h : k < ps.length) : (chgL ps bs)[k]'(by rw [chgL_len]; exact h) = ⟨ps[k], fillB (bs.getD k (UInt8.ofNat k))⟩ := by simp [chgL]
theorem chgL_take (ps : List Int) (bs : List UInt8) (k : Nat) (h : k < ps.length) : (chgL ps bs).take (k + 1) = (chgL ps bs).take k ++ [⟨ps[k], fillB (bs.getD k (UInt8.ofNat k))⟩] := by
  rw [List.take_succ_eq_append_getElem (by rw [chgL_len]; exact h), chgL_at ps bs k h]
theorem chgL_pages (ps : List Int) (bs : List UInt8) : (chgL ps bs).map Chg.page = ps := by
  refine List.ext_getElem (by rw [List.length_map, chgL_len]) fun k h1 h2 => ?_
  rw [List.getElem_map, chgL_at ps bs k h2]
theorem chgL_size (ps : List Int) (bs : List UInt8) : ∀ c ∈ chgL ps bs, c.data.size = 256 := by
  intro c hc
  obtain ⟨k, hk, rfl⟩ := List.getElem_of_mem hc
  rw [chgL_len] at hk
  rw [chgL_at ps bs k hk]
  exact fillB_size _
theorem infoRC : (Tryz.prog.info? 204).map (fun i => (i.zero, i.size, i.bytes)) = some (some (.agg #[.int .i64 0, .string ByteArray.empty]), 2, 24) := by kernel_rfl
theorem src_two {P : Program} (w : World) (t e : TypeId) (ht : P.underlying t = some (.slice e)) (x y : Value) (hx : x.oneCell' = true) (hy : y.oneCell' = true) (g : Nat) (hg : w.heap.size = g) : Src P 2 t (.slice (some ⟨g, 0, none⟩) 1 1) 1 [x, y] (w.alloc (.cells #[x, y] e)) := by
  subst hg
  refine Src.ofSlice (e' := e) _ ht ⟨w.heap.size, 0, none⟩ 1 1 [x, y] (by simp) ?_ (by intro u hu; simp at hu; rcases hu with rfl | rfl <;> assumption)
  intro j u hj
  match j, hj with
  | 0, hj => simp at hj; subst hj; simp [Addr.add]
  | 1, hj => simp at hj; subst hj; simp [Addr.add]
  | (j + 2), hj => simp at hj
theorem OwC.snoc {t : TypeId} {w : World} {base : Nat} {v : Value} {l : List Chg} {x : Chg} (h : w.ownsRow base t 2 v (l.length + 1) (ccs l ++ [.int .i64 x.page, .string x.data])) : OwC t w base v (l ++ [x]) := by
  unfold OwC
  rw [ccs_append, List.length_append]
  exact h

end Go.Proofs.YtmnedhlgplkfhaaGreat

namespace Go.Proofs.YtmnedhlgplkfhaaGreat
open Go.RowKit
set_option linter.unusedVariables false

/-- A device with pages Q, sure, nothing under way; its calls. -/
structure Rest (w : World) (p : Dp) (D : Dv) (n : Nat) (Q : Nat → ByteArray) (m : Int) : Prop where
  hd : Dev w p D
  hn : D.n = 126 + 4 * n
  hu : ∀ k, D.u k = none
  hc : Clean n D.s Q
  c0 : 0 ≤ D.c
  c1 : D.c ≤ m
theorem kpN {S : Nat → Prop} {w w1 w2 : World} (h : Kp none' w w1) (h' : Kp S w1 w2) (hS : ∀ k, S k → w.heap.size ≤ k) : Kp none' w w2 := h.trans h' (fun _ _ h => h) (fun k hk hs => absurd hk (by have := hS k hs; omega))
theorem newN_need (n : Nat) (h : n ≤ 160) : newN (126 + 4 * (n : Int)) = 126 + 4 * n := by unfold newN; omega
/-- A new device for n pages. -/
theorem rest_new {w : World} {p : Dp} {n : Nat} (h : n ≤ 160) (hD : Dev w p (fresh (newN (126 + 4 * (n : Int))))) : Rest w p (fresh (126 + 4 * n)) n (fun _ => fillB 0) 0 := by
  rw [newN_need n h] at hD
  exact ⟨hD, rfl, fun _ => rfl, fresh_clean n _, Int.le_refl _, Int.le_refl _⟩
theorem Rest.keptN {w w' : World} {p : Dp} {D : Dv} {n : Nat} {Q : Nat → ByteArray} {m : Int} (h : Rest w p D n Q m) (hk : Kp none' w w') : Rest w' p D n Q m := ⟨h.hd.keptN hk, h.hn, h.hu, h.hc, h.c0, h.c1⟩
/-- Opening it. -/
theorem rest_open {w : World} {p : Dp} {D : Dv} {n : Nat} {Q : Nat → ByteArray} {m : Int} (h : Rest w p D n Q m) (hm : m ≤ 980000) (hn1 : 1 ≤ n) (hn2 : n ≤ 160) :
    Calls Tryz.prog 58 #[.pointer (some ⟨p.d, 0, none⟩), .int .i64 n] w fun e w' => ∃ g, e = .returned (.tuple #[.pointer (some ⟨g, 0, none⟩), .int .i64 0]) ∧ Rest w' p D n Q m ∧ Pag w' g p n 0 (.slice none 0 0) [] ∧ w.heap.size ≤ g ∧ Kp p.mem w w' := by
  have ho := open_any p D n w h.hd h.c0 (Int.le_trans h.c1 hm) hn1 (by rw [h.hn]; exact Nat.le_refl _) hn2
  obtain ⟨e1, e2⟩ := clean_back h.hu h.hc
  rw [e1, e2] at ho
  refine ho.mono ?_
  rintro e w' ⟨pv, rfl, hD, hk, h1, _⟩
  obtain ⟨g, rfl, hP, hg⟩ := h1 rfl
  exact ⟨g, rfl, ⟨hD, h.hn, h.hu, h.hc, h.c0, h.c1⟩, hP, hg, hk⟩
/-- A commit upon it that ends well: the device doesn't stand still. -/
theorem rest_commit {w : World} {p : Dp} {D : Dv} {n g : Nat} {Q : Nat → ByteArray} {m c : Int} {bv v : Value} {l : List Chg} (h : Rest w p D n Q m) (hst : D.st = false) (hm : m ≤ 900000) (hn2 : n ≤ 160) (hQ : ∀ p, (Q p).size = 256) (hP : Pag w g p n c bv [])
    (hS : Chs (fun k => ¬ p.mem k) w v l) (hok : okC n l) (hne : l ≠ []) (hc0 : 0 ≤ c) (hc1 : c ≤ 1000000) :
    Calls Tryz.prog 75 #[.pointer (some ⟨g, 0, none⟩), v] w fun e w' => ∃ D', e = .returned (.int .i64 0) ∧ Rest w' p D' n (withC Q l) (m + (8 * l.length + 7)) ∧ D'.st = false ∧ D'.c = D.c + (8 * l.length + 7) ∧ Pag w' g p n (c + 1) bv [] ∧ Kp (fun k => p.mem k ∨ k = g) w w' := by
  have hco := commit_ok g n p D c bv v l w hP h.hd h.c0 (Int.le_trans h.c1 hm) (by rw [h.hn]; exact Nat.le_refl _) hn2 h.hu hS hok hne hc0 hc1
  rw [clean_old h.hu h.hc hQ hok] at hco
  have h0 : D.goE (cmW (oldC Q l) l) = 0 := goE_free _ D hst
  obtain ⟨a, _⟩ := commit_pure n D Q l h.hn hn2 h.hu h.hc hQ hok
  obtain ⟨a1, a2⟩ := a h0
  have hcc := go_c (cmW (oldC Q l) l) D h0
  have hgn := go_n (cmW (oldC Q l) l) D
  have hlen := cmW_len (oldC Q l) l
  have hol : (oldC Q l).length = l.length := by simp [oldC]
  rw [hol] at hlen
  refine hco.mono ?_
  rintro e w' ⟨rfl, hD, hk, hP1, _⟩
  have hc1' := h.c1
  have hc0' := h.c0
  exact ⟨_, by rw [h0], ⟨hD, by rw [hgn.1, h.hn], a2, a1, by omega, by omega⟩, by rw [hgn.2.1]; exact hst, by omega, hP1 h0, hk⟩
/-- Reading a page of it. -/
theorem rest_read {w : World} {p : Dp} {D : Dv} {n g k : Nat} {Q : Nat → ByteArray} {m c : Int} {bv : Value} (h : Rest w p D n Q m) (hn2 : n ≤ 160) (hQ : ∀ p, (Q p).size = 256) (hP : Pag w g p n c bv []) (hk : k < n) :
    Calls Tryz.prog 49 #[.pointer (some ⟨g, 0, none⟩), .int .i64 k] w fun e w' => e = .returned (.tuple #[.string (Q k), .int .i64 0]) ∧ Kp none' w w' := by
  have hr := pread_any g n k p D c bv [] w hP h.hd hk (by rw [h.hn]; exact Nat.le_refl _) hn2 (by simp)
  rw [show rdP D [] k = lookS D (placeN k) from rfl, clean_look h.hu h.hc hQ k hk] at hr
  exact hr
/-- One change, in a row of its own. -/
theorem chs_one (w : World) (x : Chg) (t : TypeId) : Chs (fun k => w.heap.size ≤ k) (w.alloc (.cells #[.int .i64 x.page, .string x.data] t)) (.slice (some ⟨w.heap.size, 0, none⟩) 1 1) [x] := by
  have hv := chg_var w x t
  refine ⟨some ⟨w.heap.size, 0, none⟩, 1, rfl, Nat.le_refl _, by unfold maxLen; omega, fun i hi => ⟨w.heap.size, 0, rfl, Nat.le_refl _, by simp, ?_⟩⟩
  have : i = 0 := by simpa using hi
  subst this
  exact hv
end Go.Proofs.YtmnedhlgplkfhaaGreat

namespace Go.Proofs.YtmnedhlgplkfhaaGreat
open Go.RowKit
set_option linter.unusedVariables false

theorem Rest.kept {w w' : World} {p : Dp} {D : Dv} {n : Nat} {Q : Nat → ByteArray} {m : Int} {S : Nat → Prop} (h : Rest w p D n Q m) (hk : Kp S w w') (hS : ∀ k, p.mem k → ¬ S k) : Rest w' p D n Q m := ⟨h.hd.kept hk hS, h.hn, h.hu, h.hc, h.c0, h.c1⟩
theorem Rest.less {w : World} {p : Dp} {D : Dv} {n : Nat} {Q : Nat → ByteArray} {m m' : Int} (h : Rest w p D n Q m) (hm : m ≤ m') : Rest w p D n Q m' := ⟨h.hd, h.hn, h.hu, h.hc, h.c0, Int.le_trans h.c1 hm⟩
/-- Commit upon it, whatever the changes. -/
theorem rest_commit_any {w : World} {p : Dp} {D : Dv} {n g : Nat} {Q : Nat → ByteArray} {m c : Int} {bv v : Value} {l : List Chg} (h : Rest w p D n Q m) (hst : D.st = false) (hm : m ≤ 900000) (hn2 : n ≤ 160) (hQ : ∀ p, (Q p).size = 256) (hP : Pag w g p n c bv [])
    (hS : Chs (fun k => ¬ p.mem k) w v l) (hd : ∀ c ∈ l, c.data.size = 256) (hr : i64s (l.map Chg.page)) (hc0 : 0 ≤ c) (hc1 : c ≤ 1000000) :
    Calls Tryz.prog 75 #[.pointer (some ⟨g, 0, none⟩), v] w fun e w' => ∃ D' c', e = .returned (.int .i64 (rightE n l)) ∧ Rest w' p D' n (if rightE n l = 0 then withC Q l else Q) (m + 300) ∧ D'.st = false ∧ Pag w' g p n c' bv [] ∧ Kp (fun k => p.mem k ∨ k = g) w w' ∧
      D'.c = D.c + (if rightE n l = 0 then (callsN l.length : Int) else 0) ∧ c' = c + (if rightE n l = 0 ∧ l ≠ [] then 1 else 0) := by
  by_cases hE : rightE n l = 0
  · have hok := right_ok hE hd
    have hm31 := hok.m
    by_cases hl : l = []
    · have hcn := commit_no g n p c bv [] v l _ w hP (by simp) hS hr (.inr hl)
      rw [refE_right hn2 hd] at hcn
      refine hcn.mono ?_
      rintro e w' ⟨rfl, hk⟩
      refine ⟨D, c, rfl, ?_, hst, hP.keptN hk, hk.mono (fun _ _ h => h.elim), ?_, ?_⟩
      · rw [if_pos hE, hl]
        exact (h.keptN hk).less (by omega)
      · rw [if_pos hE, hl]; simp [callsN]
      · rw [if_neg (fun h => h.2 hl)]; omega
    · refine (rest_commit h hst hm hn2 hQ hP hS hok hl hc0 hc1).mono ?_
      rintro e w' ⟨D', rfl, hR, hst', hc', hP', hk⟩
      refine ⟨D', c + 1, by rw [hE], ?_, hst', hP', hk, ?_, ?_⟩
      · rw [if_pos hE]
        exact hR.less (by omega)
      · rw [if_pos hE, hc']
        have : l.length ≠ 0 := fun e => hl (List.eq_nil_of_length_eq_zero e)
        simp [callsN, this]
      · rw [if_pos ⟨hE, hl⟩]
  · have hcn := commit_no g n p c bv [] v l _ w hP (by simp) hS hr (.inl (by rw [refE_right hn2 hd]; exact hE))
    rw [refE_right hn2 hd] at hcn
    refine hcn.mono ?_
    rintro e w' ⟨rfl, hk⟩
    refine ⟨D, c, rfl, ?_, hst, hP.keptN hk, hk.mono (fun _ _ h => h.elim), ?_, ?_⟩
    · rw [if_neg hE]
      exact (h.keptN hk).less (by omega)
    · rw [if_neg hE]; omega
    · rw [if_neg (fun h => hE h.1)]; omega

end Go.Proofs.YtmnedhlgplkfhaaGreat
