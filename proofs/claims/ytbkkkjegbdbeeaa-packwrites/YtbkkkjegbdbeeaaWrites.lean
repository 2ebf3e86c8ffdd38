/- PackWrites, the walk: over the turned program the law PackWrites returns true for every slice of bytes and every thing, and turns nothing that was there. -/
import Derived.Test.YtbkkkjegbdbeeaaRef
import Derived.Test.YtbkkkjegbdbeeaaCuts
import Derived.Deep.RegionHeldLaw
namespace Go.Proofs.Ytbkkkjegbdbeeaa.packWrites
open Go.RowKit
open packCuts (Th)
set_option linter.unusedVariables false

theorem step_append_bytes {P : Program} {w : World} {ops : Array Oper} {o : Oper} {a : Act} {K : Act → World → Prop} {Q : Exit → Act → World → Prop} {E : Prop} (hgd : o.guard = none) (s x : Operand) (t tx : TypeId)
    (ho : o.op = .call { callee := .builtin .append, args := #[s, x], argTypes := #[t, tx] }) (base : Nat) (e : TypeId) (i : TypeInfo) (ht : P.underlying t = some (.slice e)) (hi : P.info? e = some i) (hz : i.zero = some (.int .u8 0))
    (hsize : i.size = 1) (hby : i.bytes = 1) (v : Value) (l : List UInt8) (hs : a.eval s = v) (hown : Own e w base v l) (xv : Value) (k : List UInt8) (hx : a.eval x = xv) (hsrc : Src P 1 tx xv k.length (bcs k) w)
    (hb : l.length + k.length ≤ 140737488355328) (hbase : base ≤ w.heap.size)
    (h : ∀ v' w', Own e w' base v' (l ++ k) → w.grownBy w' v.ownBlock → (v'.ownBlock = v.ownBlock ∨ v'.ownBlock = some w.heap.size) → K (a.put o.dst v') w') :
    if Region.wanted o (yielded ops a.tmps) = true then Oper.wp P o a w K Q else E := by
  have hw : Region.wanted o (yielded ops a.tmps) = true := by simp [Region.wanted, hgd]
  rw [if_pos hw]
  exact wp_append_bytes w s x t tx ho base e i ht hi hz hsize hby v l hs hown xv k hx hsrc hb hbase h

theorem Own.row {e : TypeId} {w : World} {base : Nat} {v : Value} {l : List UInt8} (h : Own e w base v l) : v.ownBlock = none ∨ ∃ k, v.ownBlock = some k ∧ base ≤ k := by
  cases hv : v.ownBlock with
  | none => exact .inl rfl
  | some k => exact .inr ⟨k, rfl, (h.lt k hv).1⟩

theorem keep_x {w2 wB w4 : World} {base : Nat} {vx vB vy : Value} {l : List UInt8} (h : Own 5 w2 base vx l) (hg : w2.grownBy wB (Value.slice none 0 0).ownBlock) (hf : Fr wB vB w4 vy) (hv : vB.ownBlock = (Value.slice none 0 0).ownBlock ∨ vB.ownBlock = some w2.heap.size) : Own 5 w4 base vx l := by
  have h1 : Own 5 wB base vx l := h.kept hg (by cases hv : vx.ownBlock <;> simp [Value.ownBlock])
  refine h1.kept hf.1 ?_
  cases hx : vx.ownBlock with
  | none => exact .inl rfl
  | some k =>
    right
    have := (h.lt k hx).2
    rcases hv with hv | hv
    · rw [hv]; simp [Value.ownBlock]
    · rw [hv]; simp; omega

/-- The bytes that came in, in a world: what an append takes of them. -/
def Came (w : World) (v : Value) (l : List UInt8) : Prop := Src Try.prog 1 22 v l.length (bcs l) w ∧ (convert 22 9 v).run Try.prog w = .ok (.string ⟨l.toArray⟩) w

set_option maxRecDepth 100000 in
set_option maxHeartbeats 2000000 in
theorem walk (vb : Value) (l : List UInt8) (t k : Int) (n : Nat) (s : ByteArray) (w : World) (hn : (n : Int) < 18446744073709551616) (hs : s.size ≤ maxLen) (hl : l.length ≤ 140737488351232)
    (hcame : ∀ W : World, Below w.heap.size w W → Came W vb l) :
    Calls Try.prog 3 #[vb, .agg #[.int .i64 t, .int .i64 k, .int .u64 n, .string s]] w fun e w' => e = .returned (.bool true) ∧ Below w.heap.size w w' := by
  have Hn : Hid ((n : Int) < 18446744073709551616) := hn
  have Hs : Hid (s.size ≤ maxLen) := hs
  have Hl : Hid (l.length ≤ 140737488351232) := hl
  have Hc : Hid (∀ W : World, Below w.heap.size w W → Came W vb l) := hcame
  obtain ⟨i0, hi, hz0, hz1, hz2⟩ := info_parts Try.info5
  clear hn hs hl hcame
  go_enter Try.func3, Try.ntmps3
  go_upto_region 3 with (go_at_call 9; refine (lives_any _).mono ?_; rintro e w1 ⟨rfl, hb⟩)
  have ht1 : Th w1 w.heap.size t k n s := packCuts.Th.below (w := w.alloc (.cells #[.int .i64 t, .int .i64 k, .int .u64 n, .string s] 25)) (heap_alloc_new w _) hb (by simp)
  have hb1 : Below w.heap.size w w1 := ((Below.refl _ _).alloc (Nat.le_refl _) _).trans (hb.mono (by simp))
  have hcv := (Hc.out w1 hb1).2
  clear hb
  go_upto_region 4 with fail
  clear hcv
  have d1 : ∀ W : World, w1.drew.grownBy W none → W.cell? ⟨w.heap.size, 1, none⟩ = some (.int .i64 k) := fun W h => (packCuts.Th.kept (w := w1.drew) ht1 h (by simp)).c.2.1
  have d2 : ∀ W : World, w1.drew.grownBy W none → W.cell? ⟨w.heap.size, 2, none⟩ = some (.int .u64 n) := fun W h => (packCuts.Th.kept (w := w1.drew) ht1 h (by simp)).c.2.2.1
  have d3 : ∀ W : World, w1.drew.grownBy W none → W.cell? ⟨w.heap.size, 3, none⟩ = some (.string s) := fun W h => (packCuts.Th.kept (w := w1.drew) ht1 h (by simp)).c.2.2.2
  have dr : w1.drew.grownBy w1.drew none := World.grownBy.refl _ _
  have hz1' : w.heap.size ≤ w1.heap.size := hb1.size
  have HB : Hid (∀ W : World, w1.drew.grownBy W none → Below w.heap.size w W) := fun W h => hb1.drew.grown h hz1' (by simp)
  have HC : Hid (∀ W : World, w1.drew.grownBy W none → Src Try.prog 1 22 vb l.length (bcs l) W) := fun W h => (Hc.out W (HB.out W h)).1
  have HZ : Hid (∀ W : World, w1.drew.grownBy W none → w1.heap.size ≤ W.heap.size) := fun W h => h.size
  have Hb0 : Hid (([] : List UInt8).length + l.length ≤ 140737488355328) := by have := Hl.out; show _ ≤ _; simp; omega
  have Hb1 : Hid (l.length ≤ 140737488355300) := by have := Hl.out; show _ ≤ _; omega
  have Hb2 : Hid (l.length ≤ 140737488355072) := by have := Hl.out; show _ ≤ _; omega
  go_cut [6, 7] from 12 to 23 (fun x y wx => Own 5 wx w1.heap.size x (l ++ be n (wid k)) ∧ Own 5 wx w1.heap.size y (l ++ strB s.data.toList) ∧ w1.drew.grownBy wx none)
  case first =>
    go_region_held_law (fun w' => w1.drew.grownBy w' none) (first | assumption | exact dr) (first
      | (refine step_append_bytes rfl _ (.tmp 12) 22 22 rfl w1.heap.size 5 i0 Try.underlying22 hi hz0 hz1 hz2 (.slice none 0 0) [] rfl (Own.nil _ _ _) vb l (by simp [Act.eval, Act.put]) (HC.out _ (by assumption)) Hb0.out (HZ.out _ (by assumption)) ?_; intro vA wA hoA hgA hvA; have SA : w1.drew.grownBy wA none := grown_trans (by assumption) hgA (.inl rfl))
      | (refine step_append_bytes rfl _ (.tmp 19) 22 22 rfl w1.heap.size 5 i0 Try.underlying22 hi hz0 hz1 hz2 (.slice none 0 0) [] rfl (Own.nil _ _ _) vb l (by simp [Act.eval, Act.put]) (HC.out _ (by assumption)) Hb0.out (HZ.out _ (by assumption)) ?_; intro vB wB hoB hgB hvB; have SB : w1.drew.grownBy wB none := grown_trans (by assumption) hgB (.inl rfl))
      | (go_at_call 10; refine (num_any vA l n k w1.heap.size wA Hn.out hoA (HZ.out _ SA) Hb1.out).mono ?_; rintro e w2 ⟨vx, rfl, hox, hfx⟩; have SX : w1.drew.grownBy w2 none := grown_trans SA hfx.1 (Own.row hoA))
      | (go_at_call 11; refine (str_any vB l s w1.heap.size wB Hs.out hoB (HZ.out _ SB) Hb2.out).mono ?_; rintro e w4 ⟨vy, rfl, hoy, hfy⟩; have SY : w1.drew.grownBy w4 none := grown_trans SB hfy.1 (Own.row hoB)))
    all_goals (have hX := keep_x hox hgB hfy hvB; go_wp2_with fail; go_meet; exact ⟨hX, hoy, SY⟩)
  case rest =>
  obtain ⟨hox, hoy, hgx⟩ := hcut
  have htc := packCuts.Th.kept (w := w1.drew) ht1 hgx (by simp)
  have hbc := HB.out _ hgx
  have hzc : w.heap.size ≤ wc.heap.size := hbc.size
  clear d1 d2 d3 dr HB HC HZ Hb0 Hb1 Hb2 hz1' hgx ht1 hb1
  have d1 : ∀ W : World, wc.drew.grownBy W none → W.cell? ⟨w.heap.size, 1, none⟩ = some (.int .i64 k) := fun W h => (packCuts.Th.kept (w := wc.drew) htc h (by simp)).c.2.1
  have d2 : ∀ W : World, wc.drew.grownBy W none → W.cell? ⟨w.heap.size, 2, none⟩ = some (.int .u64 n) := fun W h => (packCuts.Th.kept (w := wc.drew) htc h (by simp)).c.2.2.1
  have d3 : ∀ W : World, wc.drew.grownBy W none → W.cell? ⟨w.heap.size, 3, none⟩ = some (.string s) := fun W h => (packCuts.Th.kept (w := wc.drew) htc h (by simp)).c.2.2.2
  have dr : wc.drew.grownBy wc.drew none := World.grownBy.refl _ _
  have cx : ∀ W : World, wc.drew.grownBy W none → (convert 22 9 u6).run Try.prog W = .ok (.string ⟨(l ++ be n (wid k)).toArray⟩) W := fun W h => run_convert_own W 22 9 5 Try.underlying22 Try.underlying5 Try.underlying9 (Own.kept (w := wc.drew) hox h (by cases hv : u6.ownBlock <;> simp))
  have cy : ∀ W : World, wc.drew.grownBy W none → (convert 22 9 u7).run Try.prog W = .ok (.string ⟨(l ++ strB s.data.toList).toArray⟩) W := fun W h => run_convert_own W 22 9 5 Try.underlying22 Try.underlying5 Try.underlying9 (Own.kept (w := wc.drew) hoy h (by cases hv : u7.ownBlock <;> simp))
  have HB : Hid (∀ W : World, wc.drew.grownBy W none → Below w.heap.size w W) := fun W h => hbc.drew.grown h hzc (by simp)
  have HN : Hid (∀ W : World, Calls Try.prog 12 #[.int .u64 n, .int .i64 k] W fun y w' => y = .returned (.string ⟨(be n (wid k)).toArray⟩) ∧ W.grownBy w' none) := fun W => rfnum_any n k W Hn.out
  have HS : Hid (∀ W : World, Calls Try.prog 13 #[.string s] W fun y w' => y = .returned (.string ⟨(strB s.data.toList).toArray⟩) ∧ W.grownBy w' none) := fun W => rfstr_any s W Hs.out
  have hx8 : (be n (wid k)).length ≤ 8 := by rw [be_len]; exact wid_hi k
  have hy8 : (strB s.data.toList).length ≤ 256 := strB_len _
  have ha : ¬ 9223372036854775807 < l.length + (be n (wid k)).length := by have := Hl.out; omega
  have ha' : ¬ 9223372036854775807 < l.length + (strB s.data.toList).length := by have := Hl.out; omega
  clear hox hoy hbc hzc htc hx8 hy8
  generalize be n (wid k) = lx at *
  generalize strB s.data.toList = ly at *
  have ex : (⟨l.toArray⟩ : ByteArray) ++ (⟨lx.toArray⟩ : ByteArray) = ⟨(l ++ lx).toArray⟩ := by rw [ByteArray.mk_append_mk]
  have ey : (⟨l.toArray⟩ : ByteArray) ++ (⟨ly.toArray⟩ : ByteArray) = ⟨(l ++ ly).toArray⟩ := by rw [ByteArray.mk_append_mk]
  go_upto_region 5 with fail
  go_region_held_law (fun w' => wc.drew.grownBy w' none) (first | assumption | exact dr) (first
      | (go_at_call 12; refine (HN.out _).mono ?_; rintro e w2 ⟨rfl, hg2⟩; have S2 : wc.drew.grownBy w2 none := grown_trans (by assumption) hg2 (.inl rfl))
      | (go_at_call 13; refine (HS.out _).mono ?_; rintro e w3 ⟨rfl, hg3⟩; have S3 : wc.drew.grownBy w3 none := grown_trans (by assumption) hg3 (.inl rfl))
      | (go_at_call 14; refine (fits_any n k _ Hn.out).mono ?_; rintro e w4 ⟨rfl, rfl⟩)
      | (go_at_call 15; refine (rfits_any n k _ Hn.out).mono ?_; rintro e w5 ⟨rfl, rfl⟩))
  all_goals (have hB := HB.out _ S3; go_wp2; go_ret; exact ⟨rfl, hB⟩)

end Go.Proofs.Ytbkkkjegbdbeeaa.packWrites
