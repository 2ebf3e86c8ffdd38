/- What a cache keeps behind reads, told plainly; a cache's Read by it; the laws' lives and fill. Conditions: those that each theorem states. Contract, over the turned program: a cache's Commit. Conditions: those that each theorem states. Contracts, over the turned program: the laws' fill; a commit of one page. Conditions: those that each theorem states. -/
import Derived.Test.YtmnedhlgplkfhaaJK2
namespace Go.Proofs.Ytmnedhlgplkfhaa
open Go.RowKit
open Go.ChangeMaps (setBlock)
set_option linter.unusedVariables false

/-- Which pages are kept, how many hits and misses there were. -/
structure St where
  K : List Int
  h : Nat
  m : Nat
/-- There is such a page. -/
def inR (n : Nat) (z : Int) : Bool := decide (0 ≤ z ∧ z < (n : Int))
theorem inR_iff {n : Nat} {z : Int} : inR n z = true ↔ 0 ≤ z ∧ z < (n : Int) := by simp [inR]
def St.use (sz n : Nat) (s : St) (z : Int) : St := if inR n z then (if z ∈ s.K then ⟨Go.Proofs.Ytmnedhlgplkfhaa.use sz s.K z, s.h + 1, s.m⟩ else ⟨Go.Proofs.Ytmnedhlgplkfhaa.use sz s.K z, s.h, s.m + 1⟩) else s
def St.run (sz n : Nat) (l : List Int) : St := l.foldl (St.use sz n) ⟨[], 0, 0⟩
theorem St.run_snoc (sz n : Nat) (l : List Int) (z : Int) : St.run sz n (l ++ [z]) = (St.run sz n l).use sz n z := by simp [St.run]
theorem St.sum {sz n : Nat} (s : St) (z : Int) : (s.use sz n z).h + (s.use sz n z).m = s.h + s.m + (if inR n z then 1 else 0) := by
  unfold St.use
  by_cases h : inR n z = true
  · rw [if_pos h, if_pos h]
    split <;> (dsimp only; omega)
  · rw [if_neg h, if_neg h]
    omega
theorem St.lim (sz n : Nat) (l : List Int) : (St.run sz n l).h + (St.run sz n l).m ≤ l.length := by
  suffices ∀ (l : List Int) (s : St), (l.foldl (St.use sz n) s).h + (l.foldl (St.use sz n) s).m ≤ s.h + s.m + l.length by
    have := this l ⟨[], 0, 0⟩
    simpa [St.run] using this
  intro l
  induction l with
  | nil => intro s; exact Nat.le_refl _
  | cons z l ih =>
    intro s
    have := ih (s.use sz n z)
    have h2 := St.sum (sz := sz) (n := n) s z
    rw [List.foldl_cons, List.length_cons]
    split at h2 <;> omega
/-- What Read tells: the bytes, the error. -/
def rdCS (n : Nat) (Q : Nat → ByteArray) (z : Int) : ByteArray := if inR n z then Q z.toNat else ⟨#[]⟩
def rdCE (n : Nat) (z : Int) : Int := if inR n z then 0 else 7
/-- A cache in the state s. -/
def Cst (w : World) (q : Cq) (F : Nat → Prop) (D : Dv) (Q : Nat → ByteArray) (M cm : Int) (s : St) : Prop := Cas w q F D Q M cm s.K (s.h : Int) (s.m : Int)
theorem cread_any {w : World} {q : Cq} {F : Nat → Prop} {D : Dv} {Q : Nat → ByteArray} {M cm : Int} {s : St} (H : Cst w q F D Q M cm s) (hb : s.h + s.m ≤ 1000000000) (z : Int) :
    Calls Try.prog 13 #[.pointer (some ⟨q.c, 0, none⟩), .int .i64 z] w fun e w' => e = .returned (.tuple #[.string (rdCS q.n Q z), .int .i64 (rdCE q.n z)]) ∧ Cst w' q (fun j => F j ∨ w.heap.size ≤ j) D Q M cm (s.use q.sz q.n z) ∧ Kp F w w' := by
  by_cases hz : inR q.n z = true
  · have hz' := inR_iff.1 hz
    unfold rdCS rdCE St.use
    rw [if_pos hz, if_pos hz, if_pos hz]
    by_cases hk : z ∈ s.K
    · rw [if_pos hk]
      refine (cread_hit H (by omega) (by omega) z hk).mono ?_
      rintro e w' ⟨_, rfl, h1, h2⟩
      refine ⟨rfl, ?_, h2⟩
      exact Cas.mono h1 (fun k _ h => .inl h)
    · rw [if_neg hk]
      obtain ⟨k, rfl⟩ : ∃ k : Nat, z = (k : Int) := ⟨z.toNat, by omega⟩
      refine (cread_miss H (by omega) (by omega) k (by omega) hk).mono ?_
      rintro e w' ⟨rfl, h1, h2⟩
      exact ⟨rfl, h1, h2⟩
  · unfold rdCS rdCE St.use
    rw [if_neg hz, if_neg hz, if_neg hz]
    refine (cread_bad H z (fun h => hz (inR_iff.2 h))).mono ?_
    rintro e w' ⟨rfl, rfl⟩
    exact ⟨rfl, Cas.mono H (fun k _ h => .inl h), Kp.refl _ _⟩
theorem lives_end : St.run 2 4 [1, 2, 1, 3, 1] = ⟨[1, 3], 2, 3⟩ := by kernel_rfl
theorem new_ints (w : World) (l : List Int) (t : TypeId) (hl : l.length ≤ 1000) : Sl (Value.int .i64) (w.heap.size + 1) (w.alloc (.cells (l.map (Value.int .i64)).toArray t)) (.slice (some ⟨w.heap.size, 0, none⟩) l.length l.length) l := by
  refine ⟨some ⟨w.heap.size, 0, none⟩, l.length, rfl, Nat.le_refl _, by unfold maxLen; omega, fun i hi => ⟨w.heap.size, 0, rfl, Nat.lt_succ_self _, ?_⟩⟩
  rw [Nat.zero_add]
  exact new_cell _ _ _ _ _ (by simp [hi])
end Go.Proofs.Ytmnedhlgplkfhaa

namespace Go.Proofs.Ytmnedhlgplkfhaa
open Go.RowKit
open Go.ChangeMaps (setBlock)
set_option linter.unusedVariables false

theorem RM.putD {w w' : World} {B : List Nat} {N : Nat → Int} {D : Nat → ByteArray} {ah be : Nat → Nat} (h : RM w B N D ah be) {a : Nat} {d : ByteArray} (hp : Put w w' a 1 (.string d)) : RM w' B N (updF' D a d) ah be := fun x hx => by
  have q := h x hx
  refine ⟨by rw [hp.old _ _ (.inr (by omega))]; exact q.c0, ?_, by rw [hp.old _ _ (.inr (by omega))]; exact q.c2, by rw [hp.old _ _ (.inr (by omega))]; exact q.c3, fun j => by rw [hp.fr]; exact q.fr j, hp.bl _ q.bl⟩
  by_cases e : x = a
  · subst e; simp only [updF', if_true]; exact hp.same
  · simp only [updF', e, if_false]; rw [hp.old _ _ (.inl e)]; exact q.c1
theorem withC_snoc (Q : Nat → ByteArray) (l : List Chg) (c : Chg) (p : Nat) : withC Q (l ++ [c]) p = if (p : Int) = c.page then c.data else withC Q l p := by simp [withC, List.foldl_append]
theorem nodup_inj {L : List Nat} {N : Nat → Int} (h : (L.map N).Nodup) {x y : Nat} (hx : x ∈ L) (hy : y ∈ L) (he : N x = N y) : x = y := by
  unfold List.Nodup at h
  rw [List.pairwise_map] at h
  induction L with
  | nil => cases hx
  | cons a L ih =>
    obtain ⟨h1, h2⟩ := List.pairwise_cons.1 h
    rcases List.mem_cons.1 hx with ex | hx'
    · rcases List.mem_cons.1 hy with ey | hy'
      · rw [ex, ey]
      · exact absurd (by rw [← ex]; exact he) (h1 y hy')
    · rcases List.mem_cons.1 hy with ey | hy'
      · exact absurd (by rw [← ey]; exact he.symm) (h1 x hx')
      · exact ih h2 hx' hy'
theorem rightE_one (n : Nat) (x : Chg) : rightE n [x] = if inR n x.page then 0 else 7 := by
  unfold rightE allB
  by_cases h : inR n x.page = true
  · have : hasB n x.page = true := by have := inR_iff.1 h; simp [hasB]; omega
    simp [h, this]
  · have : hasB n x.page = false := by
      cases hb : hasB n x.page with
      | false => rfl
      | true => exact absurd (inR_iff.2 (by simp [hasB] at hb; omega)) h
    simp [h, this]
/-- A cache while a commit's changes are brought into what it keeps: j of them. -/
structure Mid (w wr : World) (q : Cq) (F : Nat → Prop) (D : Dv) (Q : Nat → ByteArray) (M cm c' : Int) (l : List Chg) (j : Nat) (L : List Nat) (N : Nat → Int) (h mi : Int) : Prop where
  hR : Rest wr q.p D q.n (withC Q l) M
  hP : Pag wr q.g q.p q.n c' (.slice none 0 0) []
  cc : Cc wr q h mi cm
  mc : Mc wr q.m L N
  rg : ∃ T ah be, Ring wr q.s L N T ah be ∧ ∀ x ∈ L, T x = withC Q (l.take j) (N x).toNat
  kp : Kp F w wr
end Go.Proofs.Ytmnedhlgplkfhaa

namespace Go.Proofs.Ytmnedhlgplkfhaa
open Go.RowKit
set_option linter.unusedVariables false

theorem make_bytes (w : World) (n : Nat) (hn : n ≤ 1000) : ∃ wa, (Instr.makeSlice 73 (.int .i64 (n : Int)) (.int .i64 (n : Int))).run Try.prog w = .ok (.slice (some ⟨w.heap.size, 0, none⟩) n n) wa ∧ Own 5 wa w.heap.size (.slice (some ⟨w.heap.size, 0, none⟩) n n) (List.replicate n 0) ∧ Kp none' w wa := by
  obtain ⟨i0, hi, hz0, hz1, hz2⟩ := info_parts infoU8
  obtain ⟨wa, hmk, hOa, hga⟩ := run_make_full (P := Try.prog) w w.heap.size 73 5 i0 _ 1 Try.underlying73 hi hz0 hz1 .i64 .i64 n (by rw [hz2]; omega) (by unfold maxLen; omega) (Nat.le_refl _)
  refine ⟨wa, hmk, ?_, Kp.ofN hga _⟩
  have e : (madeCells (Value.int .u8 0).cells (n * 1)).toList = bcs (List.replicate n 0) := by
    show (madeCells #[Value.int .u8 0] (n * 1)).toList = _
    rw [toList_madeCells_one]
    unfold bcs
    rw [List.map_replicate, Nat.mul_one]
    rfl
  unfold Own
  rw [List.length_replicate, ← e]
  exact hOa
theorem Own.keptK {e : TypeId} {w w' : World} {base : Nat} {v : Value} {l : List UInt8} {S : Nat → Prop} (h : Own e w base v l) (hk : Kp S w w') (hS : ∀ k, v.ownBlock = some k → ¬ S k) : Own e w' base v l := prow_kept h hk hS
theorem M_le {w : World} {q : Cq} {F : Nat → Prop} {D : Dv} {Q : Nat → ByteArray} {M M' cm : Int} {s : St} (H : Cst w q F D Q M cm s) (h : M ≤ M') : Cst w q F D Q M' cm s := by
  obtain ⟨L, N, T, h1, h2, h3, h4⟩ := H
  exact ⟨L, N, T, ⟨h1.hR.less h, h1.st, h1.hP, h1.cc, h1.rg, h1.mc, h1.nd, h1.da, h1.s1, h1.s2, h1.s3, h1.s4, h1.n2, h1.hQ, h1.sm⟩, h2, h3, h4⟩
/-- How many pages. -/
def pgN (n : Int) : Nat := 1 + (n % 18446744073709551616 % 30).toNat
theorem pgN_le (n : Int) : 1 ≤ pgN n ∧ pgN n ≤ 30 := by unfold pgN; omega
theorem pgN_wrap (n0 : Int) : Hid (wrap64 (1 + wrap64 ((IntKind.u64.wrap n0).tmod 30)) = (pgN n0 : Int)) := by
  show _ = _
  have hu : IntKind.u64.wrap n0 = n0 % 18446744073709551616 := by simp [IntKind.wrap, IntKind.bits, IntKind.signed]
  have h0 : 0 ≤ n0 % 18446744073709551616 := by omega
  rw [hu, Int.tmod_eq_emod_of_nonneg h0]
  unfold wrap64 pgN
  omega
/-- Pages of one byte each. -/
def pgs1 (P : List UInt8) : Nat → ByteArray := fun p => fillB (P.getD p 0)
theorem pgs1_new (n : Nat) : (fun _ => fillB 0) = pgs1 (List.replicate n 0) := by
  funext p
  unfold pgs1
  rw [List.getD_eq_getElem?_getD, List.getElem?_replicate]
  split <;> rfl
theorem pgs1_size (P : List UInt8) : ∀ p, (pgs1 P p).size = 256 := fun p => fillB_size _
theorem pgs1_set (P : List UInt8) (k : Nat) (b : UInt8) (hk : k < P.length) : withC (pgs1 P) [⟨(k : Int), fillB b⟩] = pgs1 (P.set k b) := by
  funext p
  show (if (p : Int) = (k : Int) then fillB b else pgs1 P p) = _
  unfold pgs1
  rw [List.getD_eq_getElem?_getD, List.getD_eq_getElem?_getD, List.getElem?_set]
  by_cases e : p = k
  · subst e
    simp [hk]
  · rw [if_neg (by omega), if_neg (fun h => e h.symm)]

end Go.Proofs.Ytmnedhlgplkfhaa
