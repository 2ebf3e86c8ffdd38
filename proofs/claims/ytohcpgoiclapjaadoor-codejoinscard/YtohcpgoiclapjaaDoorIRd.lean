/- Contracts, over the turned program: the reader of package code: Err, refuse, value answer as the plain words say. Conditions: those that each theorem states. -/
import Derived.Test.YtohcpgoiclapjaaDoorIOp
namespace Go.Proofs.YtohcpgoiclapjaaDoor
open Go.RowKit
set_option linter.unusedVariables false

/-- code's reader lies at g, the reader that it embeds at b. -/
def Cr (w : World) (g b : Nat) (wr : Int) : Prop := w.heap[g]? = some (.cells #[.pointer (some ⟨b, 0, none⟩), .int .i64 wr] 50 (0, 0))
theorem Cr.c0 {w : World} {g b : Nat} {wr : Int} (h : Cr w g b wr) : w.cell? ⟨g, 0, none⟩ = some (.pointer (some ⟨b, 0, none⟩)) := by
  rw [cell_of_row w g 0 _ 50 (0, 0) h]; rfl
theorem Cr.c1 {w : World} {g b : Nat} {wr : Int} (h : Cr w g b wr) : w.cell? ⟨g, 1, none⟩ = some (.int .i64 wr) := by
  rw [cell_of_row w g 1 _ 50 (0, 0) h]; rfl
theorem Cr.fz {w : World} {g b : Nat} {wr : Int} (h : Cr w g b wr) (j : Nat) : w.frozen? ⟨g, j, none⟩ = false := by
  unfold World.frozen?
  rw [show w.heap[(⟨g, j, none⟩ : Addr).block]? = _ from h]
  simp
theorem Cr.lt {w : World} {g b : Nat} {wr : Int} (h : Cr w g b wr) : g < w.heap.size := (Array.getElem?_eq_some_iff.1 h).1
theorem Cr.kept {w w' : World} {g b : Nat} {wr : Int} {row : Option Nat} (h : Cr w g b wr) (hg : w.grownBy w' row) (hne : some g ≠ row) : Cr w' g b wr := by
  unfold Cr
  rw [hg.block g h.lt hne]
  exact h
theorem Cr.set1 {w : World} {g b : Nat} {wr : Int} (h : Cr w g b wr) (x : Int) : Cr (w.setCell ⟨g, 1, none⟩ (.int .i64 x)) g b x ∧ w.grownBy (w.setCell ⟨g, 1, none⟩ (.int .i64 x)) (some g) := by
  refine ⟨?_, ⟨rfl, rfl, rfl, by simp, fun k _ hk => heap_setCell_other w _ k _ (fun hb => hk (by simp [hb]))⟩⟩
  unfold Cr
  rw [heap_setCell_same w g 1 _ 50 _ h]
  rfl
/-- Both readers, what is left, the errors. -/
structure Cd (w : World) (g b : Nat) (s : ByteArray) (e wr : Int) : Prop where
  rd : Rd w b s e
  cr : Cr w g b wr
  ne : g ≠ b
def erI (e wr : Int) : Int := if wr = 0 then e else wr
/-- Two blocks. -/
def two (b g : Nat) : Nat → Prop := fun k => k = b ∨ k = g
theorem Kp.step {S : Nat → Prop} {w w1 w2 : World} {row : Option Nat} (h : Kp S w w1) (hg : w1.grownBy w2 row) (hr : ∀ k, row = some k → S k ∨ w.heap.size ≤ k) : Kp S w w2 :=
  h.trans (Kp.ofGrown hg (S := fun k => S k ∨ w.heap.size ≤ k) (fun k hk _ => hr k hk)) (fun _ _ h => h) (fun k hk h => h.elim id (fun h2 => by omega))
theorem Cd.kept {w w' : World} {g b : Nat} {s : ByteArray} {e wr : Int} {row : Option Nat} (h : Cd w g b s e wr) (hg : w.grownBy w' row) (h1 : some b ≠ row) (h2 : some g ≠ row) : Cd w' g b s e wr := ⟨h.rd.kept hg h1, h.cr.kept hg h2, h.ne⟩
theorem Cd.keptN {w w' : World} {g b : Nat} {s : ByteArray} {e wr : Int} (h : Cd w g b s e wr) (hg : w.grownBy w' none) : Cd w' g b s e wr := h.kept hg (by simp) (by simp)
/-- Behind a step of the reader that is embedded. -/
theorem Cd.read {w w' : World} {g b : Nat} {s s' : ByteArray} {e e' wr : Int} (h : Cd w g b s e wr) (hr : Rd w' b s' e') (hg : w.grownBy w' (some b)) : Cd w' g b s' e' wr := ⟨hr, h.cr.kept hg (by intro hh; exact h.ne (Option.some.inj hh)), h.ne⟩

set_option maxRecDepth 100000 in
set_option maxHeartbeats 400000 in
theorem ierr_any (g b : Nat) (s : ByteArray) (e wr : Int) (w : World) (h : Cd w g b s e wr) :
    Calls Tryd.prog 24 #[.pointer (some ⟨g, 0, none⟩)] w fun x w' => x = .returned (.int .i64 (erI e wr)) ∧ w' = w := by
  have h0 := h.cr.c0
  have h1 := h.cr.c1
  have hR := h.rd
  by_cases hz : wr = 0
  · have E : erI e wr = e := if_pos hz
    have hz' : (wr != 0) = false := by simp [hz]
    rw [E]
    clear hz E
    go_enter Tryd.func24, Tryd.ntmps24
    go_wp2_with (go_at_call 39; refine (err_any _ _ _ _ hR).mono ?_; rintro x w' ⟨rfl, rfl⟩)
    go_ret
    exact ⟨rfl, rfl⟩
  · have E : erI e wr = wr := if_neg hz
    have hz' : (wr != 0) = true := by simp [hz]
    rw [E]
    clear hz E
    go_enter Tryd.func24, Tryd.ntmps24
    go_wp2
    go_ret
    exact ⟨rfl, rfl⟩

set_option maxRecDepth 100000 in
set_option maxHeartbeats 400000 in
theorem refuse_ok (g b : Nat) (s : ByteArray) (w : World) (h : Cd w g b s 0 0) :
    Calls Tryd.prog 37 #[.pointer (some ⟨g, 0, none⟩)] w fun x w' => x = .returned (.tuple #[]) ∧ Cd w' g b s 0 4 ∧ w.grownBy w' (some g) := by
  have h1 := h.cr.c1
  have f1 := h.cr.fz 1
  go_enter Tryd.func37, Tryd.ntmps37
  go_wp2_with (go_at_call 24; refine (ierr_any _ _ _ _ _ _ h).mono ?_; rintro x w' ⟨rfl, rfl⟩; rw [show erI 0 0 = 0 from rfl])
  first | go_end0 | ((try simp only [Exit.inBlock, Exit.then]); refine bodyPost_ret (results_none rfl _ _ _) rfl ?_)
  have hs := h.cr.set1 4
  exact ⟨rfl, ⟨h.rd.kept hs.2 (by intro hh; exact h.ne (Option.some.inj hh).symm), hs.1, h.ne⟩, hs.2⟩
set_option maxRecDepth 100000 in
set_option maxHeartbeats 400000 in
theorem refuse_err (g b : Nat) (s : ByteArray) (e wr : Int) (w : World) (h : Cd w g b s e wr) (he : erI e wr ≠ 0) :
    Calls Tryd.prog 37 #[.pointer (some ⟨g, 0, none⟩)] w fun x w' => x = .returned (.tuple #[]) ∧ w' = w := by
  have he' : (erI e wr == 0) = false := by simp [he]
  go_enter Tryd.func37, Tryd.ntmps37
  go_wp2_with (go_at_call 24; refine (ierr_any _ _ _ _ _ _ h).mono ?_; rintro x w' ⟨rfl, rfl⟩)
  first | go_end0 | ((try simp only [Exit.inBlock, Exit.then]); refine bodyPost_ret (results_none rfl _ _ _) rfl ?_)
  exact ⟨rfl, rfl⟩

/-- What a reading call tells: the value and what is left, or the error. -/
def ToldC (w' : World) (g b : Nat) (y : Except Int (V × List UInt8)) (x : V) : Prop :=
  match y with
  | .ok (x', q) => x = x' ∧ Cd w' g b (mkB q) 0 0
  | .error er => ∃ s e wr, Cd w' g b s e wr ∧ erI e wr = er

theorem rnum_err (b : Nat) (k e : Int) (s : ByteArray) (w : World) (h : Rd w b s e) (he : e ≠ 0) (hs : s.size ≤ maxLen) :
    Calls Tryd.prog 36 #[.pointer (some ⟨b, 0, none⟩), .int .i64 k] w fun y w' => y = .returned (.int .u64 0) ∧ Rd w' b s e ∧ w.grownBy w' (some b) := by
  refine (rnum_any b _ e k w h hs).mono ?_
  rintro y w' ⟨rfl, hr, hg⟩
  have e1 : rawR s e (wid k) = ByteArray.empty := by unfold rawR; rw [if_pos (.inl he)]
  have e2 : rawS s e (wid k) = s := by unfold rawS; rw [if_pos (.inl he)]
  have e3 : rawE s e (wid k) = e := by unfold rawE; rw [if_pos he]
  rw [e2, e3] at hr
  rw [e1]
  exact ⟨rfl, hr, hg⟩

/-- Behind the store of a value at its block, which is new. -/
theorem vend {S : Nat → Prop} {w w1 : World} {g b q : Nat} {s : ByteArray} {e wr : Int} {x : V} (y : V) (hK : Kp S w w1) (hC : Cd w1 g b s e wr) (hV : Vb w1 q x) (hq : w.heap.size ≤ q) (hb : b ≠ q) (hg : g ≠ q) :
    Vb (((w1.setCell ⟨q, 0, none⟩ (.int .i64 y.k)).setCell ⟨q, 1, none⟩ (.int .i64 y.n)).setCell ⟨q, 2, none⟩ (.string y.s)) q y ∧
    Cd (((w1.setCell ⟨q, 0, none⟩ (.int .i64 y.k)).setCell ⟨q, 1, none⟩ (.int .i64 y.n)).setCell ⟨q, 2, none⟩ (.string y.s)) g b s e wr ∧
    Kp S w (((w1.setCell ⟨q, 0, none⟩ (.int .i64 y.k)).setCell ⟨q, 1, none⟩ (.int .i64 y.n)).setCell ⟨q, 2, none⟩ (.string y.s)) := by
  have h := hV.store3 y
  exact ⟨h.1, hC.kept h.2 (by intro hh; exact hb (Option.some.inj hh)) (by intro hh; exact hg (Option.some.inj hh)), hK.step h.2 (fun k hk => by cases hk; exact .inr hq)⟩

set_option maxRecDepth 100000 in
set_option maxHeartbeats 1000000 in
theorem ivalue_err (g b : Nat) (s : ByteArray) (e : Int) (w : World) (h : Cd w g b s e 0) (he : e ≠ 0) (hs : s.size ≤ maxLen) :
    Calls Tryd.prog 38 #[.pointer (some ⟨g, 0, none⟩)] w fun x w' => x = .returned zV.val ∧ Cd w' g b s e 0 ∧ Kp (two b g) w w' := by
  have hga := World.grownBy_alloc w (.cells #[.int .i64 0, .int .i64 0, .string ⟨#[]⟩] 40) none
  have h0 := h.keptN hga
  have hV : Vb (w.alloc (.cells #[.int .i64 0, .int .i64 0, .string ⟨#[]⟩] 40)) w.heap.size ⟨0, 0, ⟨#[]⟩⟩ := Vb.new w ⟨0, 0, ⟨#[]⟩⟩
  have hb := h.rd.lt
  have hg := h.cr.lt
  have c0 := h0.cr.c0
  have Her : Hid (erI e 0 ≠ 0) := he
  go_enter Tryd.func38, Tryd.ntmps38
  go_wp2_with fail
  refine (rnum_err b 1 e s _ h0.rd he hs).mono ?_
  rintro x w1 ⟨rfl, hR1, hg1⟩
  have h1 := h0.read hR1 hg1
  have hV1 := hV.kept hg1 (by simp; omega)
  have hK1 : Kp (two b g) w w1 := (Kp.ofN hga _).step hg1 (fun k hk => by cases hk; exact .inl (.inl rfl))
  have d0 := hV1.c0; have d1 := hV1.c1; have d2 := hV1.c2; have f0 := hV1.fz 0; have f1 := hV1.fz 1; have f2 := hV1.fz 2
  dsimp only at d0 d1 d2
  have hE := vend zV hK1 h1 hV1 (Nat.le_refl _) (by omega) (by omega)
  clear c0 hV hV1 hga h0
  generalize w.heap.size = q at *
  go_wp2_with (go_at_call 37; refine (refuse_err _ _ _ _ _ _ h1 Her.out).mono ?_; rintro x w' ⟨rfl, rfl⟩)
  refine bodyPost_ret (results_v1 rfl _ q _ zV rfl hE.1) rfl ?_
  exact ⟨rfl, hE.2.1, hE.2.2⟩

end Go.Proofs.YtohcpgoiclapjaaDoor
