/- The document's device in memory, and contracts, over the turned program, of what it answers: call, Stop, Read, Unsure, SameInts. Conditions: those that each theorem states. -/
import Derived.Test.YtlalnaaeljikgaaDMathD
namespace Go.Proofs.Ytlalnaaeljikgaa
open Go.RowKit
set_option linter.unusedVariables false

/-- Where it lies: its struct, its row of places, the row's address and capacity. -/
structure Rp where
  r : Nat
  q : Nat
  a : Option Addr
  cap : Nat
/-- What it is: how many places, what is sure in each, what is there, whether it isn't sure, the calls, the call at which it stands still. -/
structure Rv where
  n : Nat
  s : Nat → List UInt8
  a : Nat → List UInt8
  u : Nat → Bool
  c : Int
  h : Int
def Rp.mem (p : Rp) (k : Nat) : Prop := k = p.r ∨ k = p.q
structure Ref (w : World) (p : Rp) (R : Rv) : Prop where
  c0 : w.cell? ⟨p.r, 0, none⟩ = some (.slice p.a R.n p.cap)
  c1 : w.cell? ⟨p.r, 1, none⟩ = some (.int .i64 R.c)
  c2 : w.cell? ⟨p.r, 2, none⟩ = some (.int .i64 R.h)
  fr : ∀ j, w.frozen? ⟨p.r, j, none⟩ = false
  qa : 0 < R.n → p.a = some ⟨p.q, 0, none⟩ ∧ p.r ≠ p.q
  fq : ∀ j, w.frozen? ⟨p.q, j, none⟩ = false
  p0 : ∀ i, i < R.n → w.cell? ⟨p.q, i * 3, none⟩ = some (strV (R.s i))
  p1 : ∀ i, i < R.n → w.cell? ⟨p.q, i * 3 + 1, none⟩ = some (strV (R.a i))
  p2 : ∀ i, i < R.n → w.cell? ⟨p.q, i * 3 + 2, none⟩ = some (.bool (R.u i))
  lq : p.q < w.heap.size
  n4 : R.n ≤ 4096
  l1 : ∀ i, i < R.n → (R.s i).length = 64
  l2 : ∀ i, i < R.n → (R.a i).length = 64
theorem Ref.lr {w : World} {p : Rp} {R : Rv} (h : Ref w p R) : p.r < w.heap.size := lt_of_cell h.c0
theorem Ref.lt {w : World} {p : Rp} {R : Rv} (h : Ref w p R) : ∀ k, p.mem k → k < w.heap.size := by
  rintro k (rfl | rfl)
  · exact h.lr
  · exact h.lq
theorem Ref.kept {w w' : World} {p : Rp} {R : Rv} {S : Nat → Prop} (h : Ref w p R) (hk : Kp S w w') (hS : ∀ k, p.mem k → ¬ S k) : Ref w' p R := by
  have hr : ¬ S p.r := hS _ (.inl rfl)
  have hq : ¬ S p.q := hS _ (.inr rfl)
  exact ⟨hk.cell h.c0 hr, hk.cell h.c1 hr, hk.cell h.c2 hr, fun j => by rw [hk.frozen h.lr hr]; exact h.fr j, h.qa, fun j => by rw [hk.frozen h.lq hq]; exact h.fq j,
    fun i hi => hk.cell (h.p0 i hi) hq, fun i hi => hk.cell (h.p1 i hi) hq, fun i hi => hk.cell (h.p2 i hi) hq, Nat.lt_of_lt_of_le h.lq hk.size, h.n4, h.l1, h.l2⟩
theorem Ref.keptN {w w' : World} {p : Rp} {R : Rv} (h : Ref w p R) (hk : Kp none' w w') : Ref w' p R := h.kept hk (fun _ _ h => h)
/-- What it says of its places is of those that are there alone. -/
theorem Ref.congr {w : World} {p : Rp} {R R' : Rv} (h : Ref w p R) (hn : R'.n = R.n) (hc : R'.c = R.c) (hh : R'.h = R.h) (hs : ∀ i, i < R.n → R'.s i = R.s i) (ha : ∀ i, i < R.n → R'.a i = R.a i) (hu : ∀ i, i < R.n → R'.u i = R.u i) : Ref w p R' := by
  exact ⟨by rw [hn]; exact h.c0, by rw [hc]; exact h.c1, by rw [hh]; exact h.c2, h.fr, by rw [hn]; exact h.qa, h.fq, fun i hi => by rw [hn] at hi; rw [hs i hi]; exact h.p0 i hi, fun i hi => by rw [hn] at hi; rw [ha i hi]; exact h.p1 i hi, fun i hi => by rw [hn] at hi; rw [hu i hi]; exact h.p2 i hi, h.lq, by rw [hn]; exact h.n4,
    fun i hi => by rw [hn] at hi; rw [hs i hi]; exact h.l1 i hi, fun i hi => by rw [hn] at hi; rw [ha i hi]; exact h.l2 i hi⟩
theorem addr_ne {b o o' : Nat} (h : o ≠ o') : (⟨b, o, none⟩ : Addr) ≠ ⟨b, o', none⟩ := fun e => h (congrArg Addr.off e)
/-- Cells of the struct are written. -/
theorem Ref.setR {w : World} {p : Rp} {R : Rv} (h : Ref w p R) (j : Nat) (v : Value) (c hl : Int) (h0 : j ≠ 0) (h1 : (w.setCell ⟨p.r, j, none⟩ v).cell? ⟨p.r, 1, none⟩ = some (.int .i64 c)) (h2 : (w.setCell ⟨p.r, j, none⟩ v).cell? ⟨p.r, 2, none⟩ = some (.int .i64 hl)) :
    Ref (w.setCell ⟨p.r, j, none⟩ v) p { R with c := c, h := hl } := by
  have hk : Kp (only p.r) w (w.setCell ⟨p.r, j, none⟩ v) := Kp.setCell w p.r j _ rfl
  have hq : ∀ i, i < R.n → ¬ only p.r p.q := fun i hi e => (h.qa (by omega)).2 e.symm
  exact ⟨by rw [World.cell?_setCell_other (h := addr_ne h0)]; exact h.c0, h1, h2, fun j => by rw [World.frozen?_setCell]; exact h.fr j, h.qa, fun j => by rw [World.frozen?_setCell]; exact h.fq j,
    fun i hi => hk.cell (h.p0 i hi) (hq i hi), fun i hi => hk.cell (h.p1 i hi) (hq i hi), fun i hi => hk.cell (h.p2 i hi) (hq i hi), Nat.lt_of_lt_of_le h.lq hk.size, h.n4, h.l1, h.l2⟩
theorem Ref.setC {w : World} {p : Rp} {R : Rv} (h : Ref w p R) (x : Int) : Ref (w.setCell ⟨p.r, 1, none⟩ (.int .i64 x)) p { R with c := x } :=
  h.setR 1 _ x R.h (by omega) (World.cell?_setCell_same _ _ _ h.c1) (by rw [World.cell?_setCell_other (h := addr_ne (by omega))]; exact h.c2)
theorem Ref.setH {w : World} {p : Rp} {R : Rv} (h : Ref w p R) (x : Int) : Ref (w.setCell ⟨p.r, 2, none⟩ (.int .i64 x)) p { R with h := x } :=
  h.setR 2 _ R.c x (by omega) (by rw [World.cell?_setCell_other (h := addr_ne (by omega))]; exact h.c1) (World.cell?_setCell_same _ _ _ h.c2)
/-- A place's cell is written. -/
def updF {α : Type} (f : Nat → α) (i : Nat) (x : α) : Nat → α := fun k => if k = i then x else f k
theorem updF_same {α : Type} (f : Nat → α) (i : Nat) (x : α) : updF f i x i = x := by simp [updF]
theorem updF_other {α : Type} (f : Nat → α) (i k : Nat) (x : α) (h : k ≠ i) : updF f i x k = f k := by simp [updF, h]
theorem Ref.setS {w : World} {p : Rp} {R : Rv} (h : Ref w p R) (i : Nat) (hi : i < R.n) (x : List UInt8) (hx : x.length = 64) : Ref (w.setCell ⟨p.q, i * 3, none⟩ (strV x)) p { R with s := updF R.s i x } := by
  have hk : Kp (only p.q) w (w.setCell ⟨p.q, i * 3, none⟩ (strV x)) := Kp.setCell w p.q _ _ rfl
  have hr : ¬ only p.q p.r := (h.qa (by omega)).2
  refine ⟨hk.cell h.c0 hr, hk.cell h.c1 hr, hk.cell h.c2 hr, fun j => by rw [World.frozen?_setCell]; exact h.fr j, h.qa, fun j => by rw [World.frozen?_setCell]; exact h.fq j, fun k hk' => ?_, fun k hk' => ?_, fun k hk' => ?_, Nat.lt_of_lt_of_le h.lq hk.size, h.n4, fun k hk' => ?_, h.l2⟩
  · by_cases e : k = i
    · subst e
      show _ = some (strV (updF R.s k x k))
      rw [updF_same]
      exact World.cell?_setCell_same _ _ _ (h.p0 k hi)
    · show _ = some (strV (updF R.s i x k))
      rw [updF_other _ _ _ _ e, World.cell?_setCell_other (h := addr_ne (by omega))]
      exact h.p0 k hk'
  · rw [World.cell?_setCell_other (h := addr_ne (by omega))]; exact h.p1 k hk'
  · rw [World.cell?_setCell_other (h := addr_ne (by omega))]; exact h.p2 k hk'
  · by_cases e : k = i
    · subst e
      show (updF R.s k x k).length = 64
      rw [updF_same]; exact hx
    · show (updF R.s i x k).length = 64
      rw [updF_other _ _ _ _ e]; exact h.l1 k hk'
theorem Ref.setA {w : World} {p : Rp} {R : Rv} (h : Ref w p R) (i : Nat) (hi : i < R.n) (x : List UInt8) (hx : x.length = 64) : Ref (w.setCell ⟨p.q, i * 3 + 1, none⟩ (strV x)) p { R with a := updF R.a i x } := by
  have hk : Kp (only p.q) w (w.setCell ⟨p.q, i * 3 + 1, none⟩ (strV x)) := Kp.setCell w p.q _ _ rfl
  have hr : ¬ only p.q p.r := (h.qa (by omega)).2
  refine ⟨hk.cell h.c0 hr, hk.cell h.c1 hr, hk.cell h.c2 hr, fun j => by rw [World.frozen?_setCell]; exact h.fr j, h.qa, fun j => by rw [World.frozen?_setCell]; exact h.fq j, fun k hk' => ?_, fun k hk' => ?_, fun k hk' => ?_, Nat.lt_of_lt_of_le h.lq hk.size, h.n4, h.l1, fun k hk' => ?_⟩
  · rw [World.cell?_setCell_other (h := addr_ne (by omega))]; exact h.p0 k hk'
  · by_cases e : k = i
    · subst e
      show _ = some (strV (updF R.a k x k))
      rw [updF_same]
      exact World.cell?_setCell_same _ _ _ (h.p1 k hi)
    · show _ = some (strV (updF R.a i x k))
      rw [updF_other _ _ _ _ e, World.cell?_setCell_other (h := addr_ne (by omega))]
      exact h.p1 k hk'
  · rw [World.cell?_setCell_other (h := addr_ne (by omega))]; exact h.p2 k hk'
  · by_cases e : k = i
    · subst e
      show (updF R.a k x k).length = 64
      rw [updF_same]; exact hx
    · show (updF R.a i x k).length = 64
      rw [updF_other _ _ _ _ e]; exact h.l2 k hk'
theorem Ref.setU {w : World} {p : Rp} {R : Rv} (h : Ref w p R) (i : Nat) (hi : i < R.n) (x : Bool) : Ref (w.setCell ⟨p.q, i * 3 + 2, none⟩ (.bool x)) p { R with u := updF R.u i x } := by
  have hk : Kp (only p.q) w (w.setCell ⟨p.q, i * 3 + 2, none⟩ (.bool x)) := Kp.setCell w p.q _ _ rfl
  have hr : ¬ only p.q p.r := (h.qa (by omega)).2
  refine ⟨hk.cell h.c0 hr, hk.cell h.c1 hr, hk.cell h.c2 hr, fun j => by rw [World.frozen?_setCell]; exact h.fr j, h.qa, fun j => by rw [World.frozen?_setCell]; exact h.fq j, fun k hk' => ?_, fun k hk' => ?_, fun k hk' => ?_, Nat.lt_of_lt_of_le h.lq hk.size, h.n4, h.l1, h.l2⟩
  · rw [World.cell?_setCell_other (h := addr_ne (by omega))]; exact h.p0 k hk'
  · rw [World.cell?_setCell_other (h := addr_ne (by omega))]; exact h.p1 k hk'
  · by_cases e : k = i
    · subst e
      show _ = some (Value.bool (updF R.u k x k))
      rw [updF_same]
      exact World.cell?_setCell_same _ _ _ (h.p2 k hi)
    · show _ = some (Value.bool (updF R.u i x k))
      rw [updF_other _ _ _ _ e, World.cell?_setCell_other (h := addr_ne (by omega))]
      exact h.p2 k hk'

/-- The document's device of a device. -/
def Rv.of (D : Dv) : Rv := { n := D.n, s := D.s, a := D.at, u := fun i => (D.u i).isSome, c := D.c, h := if D.st then D.f else -1 }
/-- The call at which it stands still isn't below nought. -/
def Dv.okF (D : Dv) : Prop := D.st = true → 0 ≤ D.f
theorem still_iff (D : Dv) (h : D.okF) : stillB D = (decide (0 ≤ (Rv.of D).h) && decide ((Rv.of D).h ≤ D.c)) := by
  unfold stillB Rv.of
  cases hs : D.st
  · simp
  · have := h hs
    simp [this]

set_option maxRecDepth 100000 in
set_option maxHeartbeats 400000 in
theorem rcall_any (p : Rp) (D : Dv) (w : World) (hR : Ref w p (Rv.of D)) (hf : D.okF) (hc0 : 0 ≤ D.c) (hc1 : D.c ≤ 1000000) :
    Calls Try.prog 38 #[.pointer (some ⟨p.r, 0, none⟩)] w fun e w' => e = .returned (.int .i64 (if stillB D then 9 else 0)) ∧ Ref w' p (Rv.of D.called) ∧ Kp p.mem w w' := by
  have h1 := hR.c1
  have h2 := hR.c2
  have hz := hR.fr 1
  have hS := still_iff D hf
  have hx : (w.setCell ⟨p.r, 1, none⟩ (.int .i64 (D.c + 1))).cell? ⟨p.r, 2, none⟩ = some (.int .i64 (Rv.of D).h) := by rw [World.cell?_setCell_other (h := addr_ne (by omega))]; exact h2
  rw [show (Rv.of D).c = D.c from rfl] at h1
  have HF : Hid (Ref (w.setCell ⟨p.r, 1, none⟩ (.int .i64 (D.c + 1))) p (Rv.of D.called)) := hR.setC (D.c + 1)
  obtain ⟨hl, Hh⟩ : ∃ hl, Hid ((Rv.of D).h = hl) := ⟨_, rfl⟩
  rw [Hh.out] at h2 hx hS
  rw [hS]
  clear hS hR
  obtain ⟨w1, H1⟩ : ∃ w1, Hid (w.setCell ⟨p.r, 1, none⟩ (.int .i64 (D.c + 1)) = w1) := ⟨_, rfl⟩
  rw [H1.out] at hx HF
  have HK : Hid (Kp p.mem w w1) := by rw [← H1.out]; exact Kp.setCell _ _ _ _ (.inl rfl)
  by_cases hb1 : 0 ≤ hl
  · by_cases hb2 : hl ≤ D.c
    · rw [show (if (decide (0 ≤ hl) && decide (hl ≤ D.c)) = true then (9 : Int) else 0) = 9 from by simp [hb1, hb2]]
      go_enter Try.func38, Try.ntmps38
      go_upto_region 3 with fail
      rw [H1.out]
      go_wp2
      go_ret
      exact ⟨rfl, HF.out, HK.out⟩
    · rw [show (if (decide (0 ≤ hl) && decide (hl ≤ D.c)) = true then (9 : Int) else 0) = 0 from by simp [hb2]]
      go_enter Try.func38, Try.ntmps38
      go_upto_region 3 with fail
      rw [H1.out]
      go_wp2
      go_ret
      exact ⟨rfl, HF.out, HK.out⟩
  · rw [show (if (decide (0 ≤ hl) && decide (hl ≤ D.c)) = true then (9 : Int) else 0) = 0 from by simp [hb1]]
    go_enter Try.func38, Try.ntmps38
    go_upto_region 3 with fail
    rw [H1.out]
    go_wp2
    go_ret
    exact ⟨rfl, HF.out, HK.out⟩

set_option maxRecDepth 100000 in
set_option maxHeartbeats 400000 in
theorem rstop_any (p : Rp) (D : Dv) (n : Int) (w : World) (hR : Ref w p (Rv.of D)) (hc0 : 0 ≤ D.c) (hc1 : D.c ≤ 1000000) :
    Calls Try.prog 31 #[.pointer (some ⟨p.r, 0, none⟩), .int .i64 n] w fun e w' => e = .returned (.tuple #[]) ∧ Ref w' p (Rv.of (D.stop n)) ∧ Kp p.mem w w' := by
  have h1 := hR.c1
  have h2 := hR.c2
  have hz := hR.fr 2
  rw [show (Rv.of D).c = D.c from rfl] at h1
  have k1 : Kp p.mem w (w.setCell ⟨p.r, 2, none⟩ (.int .i64 (-1))) := Kp.setCell _ _ _ _ (.inl rfl)
  have hA := hR.setH (-1)
  have hB := hA.setH (D.c + n)
  by_cases h0 : 0 ≤ n
  · by_cases hm : n ≤ 1099511627776
    · go_enter Try.func31, Try.ntmps31
      go_wp2
      first | go_end0 | ((try simp only [Exit.inBlock, Exit.then]); refine bodyPost_ret (results_none rfl _ _ _) rfl ?_)
      refine ⟨rfl, ?_, k1.then (Kp.setCell _ _ _ _ (.inl rfl))⟩
      unfold Dv.stop
      rw [if_pos ⟨h0, hm⟩]
      exact hB
    · go_enter Try.func31, Try.ntmps31
      go_wp2
      first | go_end0 | ((try simp only [Exit.inBlock, Exit.then]); refine bodyPost_ret (results_none rfl _ _ _) rfl ?_)
      refine ⟨rfl, ?_, k1⟩
      unfold Dv.stop
      rw [if_neg (by omega)]
      exact hA
  · go_enter Try.func31, Try.ntmps31
    go_wp2
    first | go_end0 | ((try simp only [Exit.inBlock, Exit.then]); refine bodyPost_ret (results_none rfl _ _ _) rfl ?_)
    refine ⟨rfl, ?_, k1⟩
    unfold Dv.stop
    rw [if_neg (by omega)]
    exact hA

set_option maxRecDepth 100000 in
set_option maxHeartbeats 400000 in
theorem rread_any (p : Rp) (D : Dv) (i : Int) (w : World) (hR : Ref w p (Rv.of D)) :
    Calls Try.prog 20 #[.pointer (some ⟨p.r, 0, none⟩), .int .i64 i] w fun e w' => e = .returned (.string ⟨(rdL D i).toArray⟩) ∧ w' = w := by
  have h0 := hR.c0
  have h4 := hR.n4
  rw [show (Rv.of D).n = D.n from rfl] at h0 h4
  by_cases hh : hasB D.n i = true
  · obtain ⟨k, rfl⟩ : ∃ k : Nat, i = k := ⟨i.toNat, by simp [hasB] at hh; omega⟩
    have hk : k < D.n := by simp [hasB] at hh; omega
    have hE : rdL D k = D.at k := by simp [rdL, hh]
    rw [hE]
    have hq := hR.p1 k hk
    obtain ⟨ha, hne⟩ := hR.qa (by show 0 < D.n; omega)
    rw [ha] at h0
    unfold strV at hq
    rw [show (Rv.of D).a k = D.at k from rfl] at hq
    have hk' : (k : Int) < (D.n : Int) := by omega
    clear hR
    go_enter Try.func20, Try.ntmps20
    go_wp2
    go_ret
    exact ⟨rfl, rfl⟩
  · have hE : rdL D i = [] := by simp [rdL, hh]
    rw [hE]
    have hx : i < 0 ∨ (0 ≤ i ∧ ¬ i < (D.n : Int)) := by simp [hasB] at hh; omega
    clear hR
    rcases hx with hx | ⟨hx, hy⟩
    · go_enter Try.func20, Try.ntmps20
      go_wp2
      go_ret
      exact ⟨rfl, rfl⟩
    · go_enter Try.func20, Try.ntmps20
      go_wp2
      go_ret
      exact ⟨rfl, rfl⟩

/-- The places below k that aren't sure. -/
def unsK (R : Rv) (k : Nat) : List Int := ((List.range k).filter R.u).map fun i : Nat => (i : Int)
theorem unsK_of (D : Dv) : unsK (Rv.of D) D.n = unsI D := rfl
theorem unsK_le (R : Rv) (k : Nat) : (unsK R k).length ≤ k := by
  have := List.length_filter_le R.u (List.range k)
  unfold unsK
  simpa using this
theorem unsK_yes (R : Rv) (k : Nat) (h : R.u k = true) : unsK R (k + 1) = unsK R k ++ [(k : Int)] := by simp [unsK, List.range_succ, List.filter_append, h]
theorem unsK_no (R : Rv) (k : Nat) (h : R.u k = false) : unsK R (k + 1) = unsK R k := by simp [unsK, List.range_succ, List.filter_append, h]

set_option maxRecDepth 100000 in
set_option maxHeartbeats 800000 in
theorem runsure_any (p : Rp) (R : Rv) (w : World) (hR : Ref w p R) :
    Calls Try.prog 18 #[.pointer (some ⟨p.r, 0, none⟩)] w fun e w' => ∃ v, e = .returned v ∧ Ow (Value.int .i64) 3 w' w.heap.size v (unsK R R.n) ∧ Kp none' w w' := by
  have h4 := hR.n4
  obtain ⟨i0, hi, hz0, hz1, hz2⟩ := info_parts infoI
  obtain ⟨B, HB⟩ : ∃ B, Hid (w.heap.size = B) := ⟨_, rfl⟩
  rw [HB.out]
  go_enter Try.func18, Try.ntmps18
  go_wp2
  go_loopw [3, 4] (fun v t wr => ∃ k : Nat, k ≤ R.n ∧ t = .int .i64 k ∧ Ow (Value.int .i64) 3 wr B v (unsK R k) ∧ Kp none' w wr) (fun _ t _ => R.n - (intOf t).toNat)
  case atStart => exact ⟨0, Nat.zero_le _, rfl, Ow.nil _ _ _ _, Kp.refl _ _⟩
  case round =>
    obtain ⟨k, hk, rfl, hO, hKr⟩ := hrel
    have hRr := hR.keptN hKr
    have h0 := hRr.c0
    by_cases hlt : k < R.n
    · have hq := hRr.p2 k hlt
      obtain ⟨ha, hne⟩ := hR.qa (by omega)
      rw [ha] at h0
      have hk' : (k : Int) < (R.n : Int) := by omega
      have hle := unsK_le R k
      have HK : Hid (Kp none' w wr) := hKr
      have HR : Hid (Ref w p R) := hR
      clear hRr hR hKr
      cases hu : R.u k
      · have HU := hide (unsK_no R k hu)
        rw [hu] at hq
        clear hu
        go_wp2
        go_roundw
        case rel => exact ⟨k + 1, by omega, by go_num, by rw [HU.out]; exact hO, HK.out⟩
        case measure => simp [intOf]; omega
      · have HU := hide (unsK_yes R k hu)
        rw [hu] at hq
        clear hu
        have Hb : Hid (((unsK R k).length + 1) * 8 ≤ 140737488355328 ∧ (unsK R k).length + 1 ≤ maxLen ∧ B ≤ (wr.alloc (.cells #[.int .i64 (k : Int)] 3)).heap.size) := by
          have := HK.out.size
          have := HB.out
          exact ⟨by omega, by unfold maxLen; omega, by simp; omega⟩
        have hO4 := World.ownsRow.alloc hO (.cells #[.int .i64 (k : Int)] 3)
        go_wp2_with (at_builtin; refine wpList_append_row _ rfl (.tmp 22) (.tmp 24) 41 41 rfl B 3 i0 _ 1 8 Try.underlying41 hi hz0 rfl hz1 hz2 u3 _ _ rfl hO4 _ 1 [.int .i64 (k : Int)] rfl (src_cell _ 41 3 Try.underlying41 _ rfl _ rfl) (by omega) Hb.out.1 Hb.out.2.1 Hb.out.2.2 ?_; intro v4 w4 hO5 hg4 hv4)
        have hk4 : Kp (fun k => u3.ownBlock = some k) wr w4 := ((Kp.alloc _ wr _)).then (Kp.ofGrown hg4 (fun k hk _ => hk))
        go_roundw
        case rel => exact ⟨k + 1, by omega, by go_num, by rw [HU.out]; unfold Ow; rw [List.map_append, List.length_append]; exact hO5, HK.out.trans hk4 (fun _ _ h => h) (fun i hi h => absurd hi (by have := (hO.lt i h).1; have := HB.out; omega))⟩
        case measure => simp [intOf]; omega
    · obtain rfl : k = R.n := by omega
      clear hRr
      go_wp2
      go_ret
      exact ⟨_, rfl, hO, hKr⟩

set_option maxRecDepth 100000 in
set_option maxHeartbeats 400000 in
theorem sameInts_any (v v' : Value) (l : List Int) (b b' : Nat) (w : World) (h : Ow (Value.int .i64) 3 w b v l) (h' : Ow (Value.int .i64) 3 w b' v' l) (hl : l.length ≤ 4096) :
    Calls Try.prog 16 #[v, v'] w fun e w' => e = .returned (.bool true) ∧ Kp none' w w' := by
  obtain ⟨a, c, rfl, ha⟩ := h.open
  obtain ⟨a', c', rfl, ha'⟩ := h'.open
  clear h h'
  go_enter Try.func16, Try.ntmps16
  go_wp2
  go_loopw [5] (fun t wr => ∃ k : Nat, k ≤ l.length ∧ t = .int .i64 k ∧ Kp none' w wr) (fun t _ => l.length - (intOf t).toNat)
  case atStart => exact ⟨0, Nat.zero_le _, rfl, Kp.refl _ _⟩
  case round =>
    obtain ⟨k, hk, rfl, hKr⟩ := hrel
    by_cases hlt : k < l.length
    · obtain ⟨g, rfl, _, hc⟩ := ha k hlt
      obtain ⟨g', rfl, _, hc'⟩ := ha' k hlt
      have d := hKr.cell hc (fun h => h)
      have d' := hKr.cell hc' (fun h => h)
      have hk' : (k : Int) < (l.length : Int) := by omega
      generalize l[k] = x at d d'
      clear ha ha' hc hc'
      go_upto_region 6 with fail
      go_quiet (fail)
      go_wp2
      go_roundw
      case rel => exact ⟨k + 1, by omega, by go_num, hKr.then (Kp.drewN _ _ _)⟩
      case measure => simp [intOf]; omega
    · obtain rfl : k = l.length := by omega
      go_wp2
      go_ret
      exact ⟨rfl, hKr⟩

end Go.Proofs.Ytlalnaaeljikgaa
