/- PackReads, the walk: over the turned program the law PackReads returns true for every text and every list of things, and turns nothing that was there. -/
import Derived.Test.YtbkkkjegbdbeeaaRefRead
import Derived.Test.YtbkkkjegbdbeeaaLives
import Derived.Deep.RegionHeldLaw
import Derived.Deep.CutBlock
namespace Go.Proofs.Ytbkkkjegbdbeeaa.packReads
open Go.RowKit
set_option linter.unusedVariables false

/-- A thing: its kind, its size, its number, its text. -/
structure Th where
  t : Int
  k : Int
  n : Nat
  s : ByteArray
/-- The things that came in lie in memory, four cells each. -/
def Lies (w : World) (b off len : Nat) (th : Nat → Th) : Prop := ∀ i, i < len →
  w.cell? ⟨b, off + i * 4, none⟩ = some (.int .i64 (th i).t) ∧ w.cell? ⟨b, off + i * 4 + 1, none⟩ = some (.int .i64 (th i).k) ∧ w.cell? ⟨b, off + i * 4 + 2, none⟩ = some (.int .u64 (th i).n) ∧ w.cell? ⟨b, off + i * 4 + 3, none⟩ = some (.string (th i).s)
theorem Lies.below {w w' : World} {b off len : Nat} {th : Nat → Th} (h : Lies w b off len th) (hb : Below w.heap.size w w') : Lies w' b off len th := by
  intro i hi
  obtain ⟨h0, h1, h2, h3⟩ := h i hi
  have hlt : b < w.heap.size := World.block_lt_of_cell? w _ h0
  refine ⟨?_, ?_, ?_, ?_⟩
  · rw [hb.cell (p := ⟨b, off + i * 4, none⟩) hlt]; exact h0
  · rw [hb.cell (p := ⟨b, off + i * 4 + 1, none⟩) hlt]; exact h1
  · rw [hb.cell (p := ⟨b, off + i * 4 + 2, none⟩) hlt]; exact h2
  · rw [hb.cell (p := ⟨b, off + i * 4 + 3, none⟩) hlt]; exact h3

theorem Hid.mk' {p : Prop} (h : p) : Hid p := h
/-- Both readers stand at the same place, with the same first error. -/
def Inv (B : Nat) (w : World) (bx : Nat) (s0 : ByteArray) (wr : World) : Prop := ∃ e p, p ≤ s0.size ∧ Rd wr bx (rest s0 p) e ∧ Rf wr (bx + 1) s0 p e ∧ Below B w wr
theorem inv_start {w w1 : World} {s0 : ByteArray} (hb : Below w.heap.size w w1) :
    Inv w.heap.size w w1.heap.size s0 ((w1.alloc (.cells #[.string s0, .int .i64 0] 52)).alloc (.cells #[.string s0, .int .i64 0, .int .i64 0] 39)) := by
  refine ⟨0, 0, Nat.zero_le _, ?_, ?_, ?_⟩
  · rw [rest_self]
    exact (Rd.new w1 s0 0).kept (World.grownBy_alloc _ _ none) (by simp)
  · have h := Rf.new (w1.alloc (.cells #[.string s0, .int .i64 0] 52)) s0
    have e : (w1.alloc (.cells #[.string s0, .int .i64 0] 52)).heap.size = w1.heap.size + 1 := by simp
    rw [e] at h
    exact h
  · exact (hb.alloc hb.size _).alloc (by have := hb.size; simp; omega) _

set_option maxRecDepth 100000 in
set_option maxHeartbeats 4000000 in
theorem walk (s0 : ByteArray) (b off len cap : Nat) (th : Nat → Th) (w : World) (hs : s0.size ≤ maxLen) (hlen : len ≤ 9223372036854775807) (hL : Lies w b off len th) (hc : len ≤ cap) :
    Calls Try.prog 4 #[.string s0, .slice (some ⟨b, off, none⟩) len cap] w fun e w' => e = .returned (.bool true) ∧ Below w.heap.size w w' := by
  have Hs : Hid (s0.size ≤ maxLen) := hs
  have HL : Hid (Lies w b off len th) := hL
  clear hs hL
  go_enter Try.func4, Try.ntmps4
  go_wp2_with (first | (go_at_call 9; refine (lives_any _).mono ?_; rintro e w1 ⟨rfl, hb⟩) | (go_at_call 16; refine (from_any _ _).mono ?_; rintro e w2 ⟨rfl, hw2⟩))
  have hI : Inv w.heap.size w w1.heap.size s0 ((w1.alloc (.cells #[.string s0, .int .i64 0] 52)).alloc (.cells #[.string s0, .int .i64 0, .int .i64 0] 39)) := inv_start hb
  have hz1 : w.heap.size ≤ w1.heap.size := hb.size
  clear hb hw2 w2
  generalize hbx : w1.heap.size = bx at *
  go_loopw [7, 8] (fun i ok wr => ∃ j : Nat, j ≤ len ∧ i = .int .i64 j ∧ Inv w.heap.size w bx s0 wr) (fun i _ _ => len - (intOf i).toNat)
  case atStart => exact ⟨0, Nat.zero_le _, rfl, hI⟩
  case round =>
    clear hI
    obtain ⟨j, hj, rfl, e, p, hp, hRx, hRy, hb⟩ := hrel
    by_cases hlt : j < len
    · have hlti : (j : Int) < (len : Int) := by omega
      obtain ⟨t0, t1, t2, t3⟩ := HL.out.below hb j hlt
      have hk3 := kind_lt (th j).t
      have hps : (rest s0 p).size ≤ maxLen := by have := Hs.out; rw [rest_size]; omega
      have Hps : Hid ((rest s0 p).size ≤ maxLen) := hps
      have Hp : Hid (p ≤ s0.size) := hp
      clear hps hp
      go_upto_block 2 with (go_at_call 17; refine (kind_any _ _ _ _ _).mono ?_; rintro x w3 ⟨rfl, hg3⟩)
      have hRx3 : Rd w3.drew bx (rest s0 p) e := (Rd.kept hRx hg3 (by simp) : Rd w3 bx (rest s0 p) e)
      have hRy3 : Rf w3.drew (bx + 1) s0 p e := (Rf.kept hRy hg3 (by simp) : Rf w3 (bx + 1) s0 p e)
      have hb3 := hb.grown hg3 hb.size (by simp)
      clear t0 t1 t2 t3 hRx hRy hb hg3
      have dk : ∀ W : World, Below w.heap.size w W → W.cell? ⟨b, off + j * 4 + 1, none⟩ = some (.int .i64 (th j).k) := fun W h => (HL.out.below h j hlt).2.1
      go_cut [8] from 16 to 102 (fun ok wx => ok = .bool true ∧ Inv w.heap.size w bx s0 wx)
      case first =>
        rcases (by omega : kindOf (th j).t = 0 ∨ kindOf (th j).t = 1 ∨ kindOf (th j).t = 2) with hk | hk | hk
        · have hk0 : ((kindOf (th j).t : Int) == 0) = true := by simp [hk]
          clear hk hk3
          go_upto_region 10 with fail
          go_region_held_law (fun w' => Below w.heap.size w w') (first | assumption | exact hb3.drew) (first
            | (go_at_call 18; refine (rnum_any bx (rest s0 p) e _ _ hRx3 Hps.out).mono ?_; rintro x w4 ⟨rfl, hRx4, hg4⟩; have hRy4 := hRy3.kept hg4 (by simp); have S4 : Below w.heap.size w w4 := hb3.drew.grown hg4 hb3.size (by simp; omega))
            | (go_at_call 19; refine (rfrnum_any (bx + 1) s0 p e _ _ hRy4 Hp.out Hs.out).mono ?_; rintro x w5 ⟨rfl, p', hp', hr', hRy5, hg5⟩; have hRx5 := hRx4.kept hg5 (by simp); have S5 : Below w.heap.size w w5 := S4.grown hg5 S4.size (by simp; omega)))
          all_goals (have HI : Inv w.heap.size w bx s0 w5 := ⟨_, p', hp', by rw [hr']; exact hRx5, hRy5, S5⟩; clear hRx5 hRy5 S5 S4 hRx4 hRy4 hr'; go_wp2_with fail; go_meet; exact ⟨rfl, HI⟩)
        · have hk0 : ((kindOf (th j).t : Int) == 0) = false := by simp [hk]
          have hk1 : ((kindOf (th j).t : Int) == 1) = true := by simp [hk]
          clear hk hk3
          go_upto_region 12 with fail
          go_region_held_law (fun w' => Below w.heap.size w w') (first | assumption | exact hb3.drew) (first
            | (go_at_call 20; refine (rstr_any bx (rest s0 p) e _ _ hRx3 Hps.out).mono ?_; rintro x w4 ⟨rfl, hRx4, hg4⟩; have hRy4 := hRy3.kept hg4 (by simp); have S4 : Below w.heap.size w w4 := hb3.drew.grown hg4 hb3.size (by simp; omega))
            | (go_at_call 21; refine (rfrstr_any (bx + 1) s0 p e _ _ hRy4 Hp.out Hs.out).mono ?_; rintro x w5 ⟨rfl, p', hp', hr', hRy5, hg5⟩; have hRx5 := hRx4.kept hg5 (by simp); have S5 : Below w.heap.size w w5 := S4.grown hg5 S4.size (by simp; omega)))
          all_goals (have HI : Inv w.heap.size w bx s0 w5 := ⟨_, p', hp', by rw [hr']; exact hRx5, hRy5, S5⟩; clear hRx5 hRy5 S5 S4 hRx4 hRy4 hr'; go_wp2_with fail; go_meet; exact ⟨rfl, HI⟩)
        · have hk0 : ((kindOf (th j).t : Int) == 0) = false := by simp [hk]
          have hk1 : ((kindOf (th j).t : Int) == 1) = false := by simp [hk]
          have hk2 : ((kindOf (th j).t : Int) == 2) = true := by simp [hk]
          clear hk hk3
          go_upto_region 14 with fail
          go_region_held_law (fun w' => Below w.heap.size w w') (first | assumption | exact hb3.drew) (first
            | (go_at_call 22; refine (raw_any bx (rest s0 p) e _ _ hRx3 Hps.out).mono ?_; rintro x w4 ⟨rfl, hRx4, hg4⟩; have hRy4 := hRy3.kept hg4 (by simp); have S4 : Below w.heap.size w w4 := hb3.drew.grown hg4 hb3.size (by simp; omega))
            | (go_at_call 23; refine (rfraw_any (bx + 1) s0 p e _ _ hRy4 Hp.out Hs.out).mono ?_; rintro x w5 ⟨rfl, p', hp', hr', hRy5, hg5⟩; have hRx5 := hRx4.kept hg5 (by simp); have S5 : Below w.heap.size w w5 := S4.grown hg5 S4.size (by simp; omega)))
          all_goals (have HI : Inv w.heap.size w bx s0 w5 := ⟨_, p', hp', by rw [hr']; exact hRx5, hRy5, S5⟩; clear hRx5 hRy5 S5 S4 hRx4 hRy4 hr'; go_wp2_with fail; go_meet; exact ⟨rfl, HI⟩)
      case rest =>
      obtain ⟨rfl, e2, p2, hp2, hRx2, hRy2, hb2⟩ := hcut
      have hzz := rest_size s0 p2
      have dx : ∀ W : World, wc.drew.grownBy W none → Rd W bx (rest s0 p2) e2 := fun W h => Rd.kept (w := wc.drew) hRx2 h (by simp)
      have dy : ∀ W : World, wc.drew.grownBy W none → Rf W (bx + 1) s0 p2 e2 := fun W h => Rf.kept (w := wc.drew) hRy2 h (by simp)
      have DX := Hid.mk' dx
      have DY := Hid.mk' dy
      have de : ∀ W : World, wc.drew.grownBy W none → W.cell? ⟨bx + 1, 2, none⟩ = some (.int .i64 e2) := fun W h => (dy W h).c2
      have dr : wc.drew.grownBy wc.drew none := World.grownBy.refl _ _
      have Hp2 : Hid (p2 ≤ s0.size) := hp2
      have HI2 : Hid (∀ W : World, wc.drew.grownBy W none → Inv w.heap.size w bx s0 W) := fun W h => ⟨e2, p2, hp2, dx W h, dy W h, hb2.drew.grown h hb2.size (by simp)⟩
      clear dx dy hp2 hRx2 hRy2 hb2 hRx3 hRy3 hb3 dk Hps Hp
      go_upto_region 15 with fail
      go_region_held_law (fun w' => wc.drew.grownBy w' none) (first | assumption | exact dr) (first
            | (go_at_call 24; refine (left_any bx (rest s0 p2) e2 _ (DX.out _ (by assumption))).mono ?_; rintro x w4 ⟨rfl, rfl⟩)
            | (go_at_call 26; refine (err_any bx (rest s0 p2) e2 _ (DX.out _ (by assumption))).mono ?_; rintro x w4 ⟨rfl, rfl⟩)
            | (go_at_call 27; refine (done_any bx (rest s0 p2) e2 _ (DX.out _ (by assumption))).mono ?_; rintro x w4 ⟨rfl, rfl⟩)
            | (go_at_call 25; refine (rfleft_any (bx + 1) s0 p2 e2 _ (DY.out _ (by assumption)) Hp2.out Hs.out).mono ?_; rintro x w6 ⟨rfl, hg6⟩; have S6 : wc.drew.grownBy w6 none := grown_trans (by assumption) hg6 (.inl rfl))
            | (go_at_call 28; refine (rfdone_any (bx + 1) s0 p2 e2 _ (DY.out _ (by assumption)) Hp2.out Hs.out).mono ?_; rintro x w7 ⟨rfl, hg7⟩; have S7 : wc.drew.grownBy w7 none := grown_trans (by assumption) hg7 (.inl rfl)))
      have HI := HI2.out _ S7
      clear DX DY de dr HI2 S6 S7 hg6 hg7 Hp2
      go_wp2
      go_roundw
      case rel => first | exact ⟨j + 1, by omega, by go_num, HI⟩ | ((repeat apply Exists.intro); exact ⟨⟨j + 1, by omega, by go_num, HI⟩, rfl⟩)
      case measure => simp [intOf]; omega
    · go_wp2
      go_ret
      exact ⟨rfl, hb⟩

end Go.Proofs.Ytbkkkjegbdbeeaa.packReads
