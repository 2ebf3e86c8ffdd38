/- Contracts, over the turned program: a table with entries behind (Table.Has, by slices.Concat). Conditions: those that each theorem states. Contract, over the turned program: the first frame of an argument, as the document makes it. Conditions: those that each theorem states. -/
import Derived.Test.YthopmlgfklhagabDoorHJo
import Derived.Lib.AppendZerosOnto
import Derived.Test.YthopmlgfklhagabDoorHJr
namespace Go.Proofs.YthopmlgfklhagabDoor
open Go Go.RowKit
set_option linter.unusedVariables false

/-- An append to a row, of elements of any size, that a call itself has laid, also of none to none. -/
theorem app_row100 (t e ty : TypeId) (z : Value) (sz by_ : Nat) (ht : Tryd.prog.underlying t = some (.slice e)) (hinfo : (Tryd.prog.info? e).map (fun i => (i.zero, i.size, i.bytes)) = some (some z, sz, by_)) (hzc : z.cells.size = sz) (hby : by_ ≤ 100)
    (w : World) (base : Nat) (v : Value) (n : Nat) (cs : List Value) (x : Value) (m : Nat) (ds : List Value) (hO : w.ownsRow base e sz v n cs) (hs : Src Tryd.prog sz t x m ds w) (hb : base ≤ w.heap.size) (hl : n + m ≤ 100000000) :
    ∃ v' w', (Builtin.append_ #[t, t] ty #[v, x]).run Tryd.prog w = .ok v' w' ∧ w'.ownsRow base e sz v' (n + m) (cs ++ ds) ∧ w.grownBy w' v.ownBlock ∧ (v'.ownBlock = v.ownBlock ∨ v'.ownBlock = some w.heap.size) := by
  obtain ⟨i0, hi, hz0, hz1, hz2⟩ := info_parts hinfo
  by_cases h0 : 0 < n + m
  · exact run_append_own_row (P := Tryd.prog) w base t t ty e i0 z sz by_ ht hi hz0 hzc hz1 hz2 v n cs hO x m ds hs h0 (by
      have : (n + m) * by_ ≤ 100000000 * 100 := Nat.mul_le_mul hl hby
      omega) (by unfold maxLen; omega) hb
  · obtain rfl : n = 0 := by omega
    obtain rfl : m = 0 := by omega
    have hd : ds = [] := List.eq_nil_of_length_eq_zero (by have := hs.newsLen; simpa using this)
    subst hd
    have hs' : Src Tryd.prog i0.size t x 0 [] w := by rw [hz1]; exact hs
    have hf := hs'.cells
    refine ⟨v, w, ?_, by rw [List.append_nil]; exact hO, ⟨rfl, rfl, rfl, Nat.le_refl _, fun _ _ _ => rfl⟩, .inl rfl⟩
    rcases hO.2 with ⟨rfl, _⟩ | ⟨g, cap, cur, rfl, _⟩
    · simp [Builtin.append_, run_underlying ht, sizeOf, typeInfo, hi, hs'.len, hf]
    · simp [Builtin.append_, run_underlying ht, sizeOf, typeInfo, hi, hs'.len, hf, Addr.add_lit, storeCells]
set_option maxRecDepth 100000 in
theorem zeros_row100 (t e : TypeId) (z : Value) (sz by_ : Nat) (ht : Tryd.prog.underlying t = some (.slice e)) (hinfo : (Tryd.prog.info? e).map (fun i => (i.zero, i.size, i.bytes)) = some (some z, sz, by_)) (hzc : z.cells.size = sz) (hsz : 0 < sz) (hby : by_ ≤ 100) (w : World) (n : Nat) (h0 : 0 < n) (hn : n ≤ 100000000) :
    ∃ c w', (Builtin.append_ #[t, 3] t #[.slice none 0 0, .int .i64 (n : Int)]).run Tryd.prog w = .ok (.slice (some ⟨w.heap.size, 0, none⟩) n c) w' ∧ w'.ownsRow w.heap.size e sz (.slice (some ⟨w.heap.size, 0, none⟩) 0 c) 0 [] ∧ Kp none' w w' := by
  obtain ⟨i0, hi, hz0, hz1, hz2⟩ := info_parts hinfo
  have hfits : n * by_ ≤ 140737488355328 := by
    have : n * by_ ≤ 100000000 * 100 := Nat.mul_le_mul hn hby
    omega
  have hr := Lib.run_append_grow_zeros (P := Tryd.prog) w t 3 t e i0 z .i64 .i64 ht Tryd.underlying3 hi hz0 none 0 0 [] (run_firstCells_none w.drew i0.size 0 0 0) n h0 (by omega) (by omega) (by omega) (by rw [hz2]; omega) (growslice_fits (by omega) (by rw [hz2, Nat.zero_add]; exact hfits))
  rw [Nat.zero_add] at hr
  have hge := grownCap_ge w n 0 e
  have hcm : grownCap w n 0 e ≤ maxLen := grownCap_le_maxLen w _ 0 e (by unfold maxLen; omega)
  refine ⟨_, _, hr, ⟨by simp, .inr ⟨w.heap.size, grownCap w n 0 e, _, rfl, Nat.le_refl _, heap_alloc_new w.drew _, Nat.zero_le _, hcm, ?_, by simp⟩⟩, (Kp.drew _ _).thenN (Kp.alloc _ _ _)⟩
  simp only [Array.size_append, List.size_toArray, List.length_nil, size_zeroCells, hzc]
  rw [Nat.zero_add, ← Nat.add_mul]
  congr 1
  omega

set_option maxRecDepth 100000 in
/-- Entries appended to a row that a call has made. -/
theorem app_wr (t : TypeId) (ht : Tryd.prog.underlying t = some (.slice 40)) (w : World) (B : Nat) (v x : Value) (l m : List Wr) (hO : OwR Wr.cells 7 40 w B v l) (hx : Rw Wr.cells 7 w x m) (hb : B ≤ w.heap.size) (hl : l.length + m.length ≤ 100000000) :
    ∃ v' w', (Builtin.append_ #[t, t] t #[v, x]).run Tryd.prog w = .ok v' w' ∧ OwR Wr.cells 7 40 w' B v' (l ++ m) ∧ w.grownBy w' v.ownBlock := by
  obtain ⟨v', w', h1, h2, h3, _⟩ := app_row100 t 40 t (.agg #[.int .i64 0, .int .i64 0, .string ByteArray.empty, .int .i64 0, .int .i64 0, .string ByteArray.empty, .bool false]) 7 72 ht infoW (by rfl) (by omega) w B v _ _ x _ _ hO (hx.src clW (by omega) t 40 ht) hb hl
  rw [← fcs_append] at h2
  exact ⟨v', w', h1, by unfold OwR; rw [List.length_append]; exact h2, h3⟩
set_option maxRecDepth 100000 in
set_option maxHeartbeats 600000 in
theorem growW (n : Nat) (w : World) (hn : n ≤ 100000000) :
    Calls Tryd.prog 26 #[.slice none 0 0, .int .i64 (n : Int)] w fun e w' => ∃ v', e = .returned v' ∧ OwR Wr.cells 7 40 w' w.heap.size v' [] ∧ w.grownBy w' none := by
  by_cases h0 : n = 0
  · subst h0
    rw [show ((0 : Nat) : Int) = 0 from rfl]
    go_enter Tryd.func26, Tryd.ntmps26
    go_wp2
    go_ret
    exact ⟨_, rfl, OwR.nil, World.grownBy.refl _ _⟩
  · obtain ⟨c, w1, hr, hO, hK⟩ := zeros_row100 28 40 (.agg #[.int .i64 0, .int .i64 0, .string ByteArray.empty, .int .i64 0, .int .i64 0, .string ByteArray.empty, .bool false]) 7 72 Tryd.underlying28 infoW (by rfl) (by omega) (by omega) w n (by omega) hn
    have h1 : ¬ (n : Int) < 0 := by omega
    have h2 : (0 : Int) < (n : Int) := by omega
    have h3 : wrap64 (n : Int) = (n : Int) := by unfold wrap64; omega
    have HO := hide hO
    clear hO h0
    go_enter Tryd.func26, Tryd.ntmps26
    go_wp2_with (first
      | (at_builtin; refine iwpList_app_at rfl (.tmp 20) (.tmp 21) 28 3 rfl _ _ rfl rfl (by first | exact hr | (rw [h3]; exact hr)) ?_)
      | fail)
    go_ret
    exact ⟨_, rfl, HO.out, hK.grown⟩
set_option maxRecDepth 100000 in
set_option maxHeartbeats 1000000 in
theorem concatW (tv mv : Value) (t m : List Wr) (w : World) (p : Nat) (hp0 : w.cell? ⟨p, 0, none⟩ = some tv) (hp1 : w.cell? ⟨p, 1, none⟩ = some mv) (ht : Rw Wr.cells 7 w tv t) (hm : Rw Wr.cells 7 w mv m) (hb : t.length + m.length ≤ 10000000) :
    Calls Tryd.prog 17 #[.slice (some ⟨p, 0, none⟩) 2 2] w fun e w' => ∃ v', e = .returned v' ∧ OwR Wr.cells 7 40 w' w.heap.size v' (t ++ m) ∧ w.grownBy w' none := by
  have HT := hide ht
  have HM := hide hm
  obtain ⟨a1, c1, rfl, _⟩ := ht
  obtain ⟨a2, c2, rfl, _⟩ := hm
  have HG := hide (fun (W : World) => growW (t.length + m.length) W (by omega))
  have hp1' : w.cell? ⟨p, 0 + 1, none⟩ = some (.slice a2 m.length c2) := hp1
  go_enter Tryd.func17, Tryd.ntmps17
  go_wp2
  go_loopw [3, 5, 11] (fun s _ u wr => ∃ j q : Nat, j ≤ 2 ∧ u = .int .i64 j ∧ s = .int .i64 (q : Int) ∧ Hid ((j = 0 ∧ q = 0) ∨ (j = 1 ∧ q = t.length) ∨ (j = 2 ∧ q = t.length + m.length)) ∧ w = wr) (fun _ _ u _ => 2 - (intOf u).toNat)
  case atStart => exact ⟨0, 0, Nat.zero_le _, rfl, rfl, .inl ⟨rfl, rfl⟩, rfl⟩
  case round =>
    obtain ⟨j, q, hj, rfl, rfl, HQ, rfl⟩ := hrel
    have hq := HQ.out
    rcases (by omega : j = 0 ∨ j = 1 ∨ j = 2) with rfl | rfl | rfl
    · have hq0 : q = 0 := by omega
      subst hq0
      have hw1 : wrap64 (0 + (t.length : Int)) = (t.length : Int) := by unfold wrap64; omega
      have hr0 : ¬ (t.length : Int) < 0 := by omega
      clear hq HQ
      rw [show ((0 : Nat) : Int) = 0 from rfl]
      go_wp2
      go_roundw
      case rel => exact ⟨1, t.length, by omega, by go_num, by first | rfl | rw [hw1] | (simp [wrap64]; omega), .inr (.inl ⟨rfl, rfl⟩), by first | rfl | trivial⟩
      case measure => simp [intOf]
    · have hq0 : q = t.length := by omega
      subst hq0
      have hw1 : wrap64 ((t.length : Int) + (m.length : Int)) = ((t.length + m.length : Nat) : Int) := by unfold wrap64; omega
      have hr0 : ¬ ((t.length + m.length : Nat) : Int) < 0 := by omega
      clear hq HQ
      rw [show ((1 : Nat) : Int) = 1 from rfl]
      go_wp2
      go_roundw
      case rel => exact ⟨2, t.length + m.length, by omega, by go_num, by first | rfl | rw [hw1], .inr (.inr ⟨rfl, rfl⟩), by first | rfl | trivial⟩
      case measure => simp [intOf]
    · have hq0 : q = t.length + m.length := by omega
      subst hq0
      clear hq HQ
      rw [show ((2 : Nat) : Int) = 2 from rfl]
      go_wp2_with (first
        | (go_at_call 26; refine (HG.out _).mono ?_; rintro e w1 ⟨v1, rfl, hO1, hK1⟩)
        | fail)
      have HO1 := hide hO1
      clear hO1
      go_loopw [6, 8, 27] (fun s _ u wr => ∃ (j : Nat) (L : List Wr), j ≤ 2 ∧ u = .int .i64 j ∧ OwR Wr.cells 7 40 wr w.heap.size s L ∧ Hid ((j = 0 ∧ L = []) ∨ (j = 1 ∧ L = t) ∨ (j = 2 ∧ L = t ++ m)) ∧ w.grownBy wr none) (fun _ _ u _ => 2 - (intOf u).toNat)
      case atStart => exact ⟨0, [], Nat.zero_le _, rfl, HO1.out, .inl ⟨rfl, rfl⟩, hK1⟩
      case round =>
        obtain ⟨j, L, hj, rfl, hO, HQ, hK⟩ := hrel
        have hq := HQ.out
        have p0 : wr.cell? ⟨p, 0, none⟩ = some (.slice a1 t.length c1) := cell_g hp0 hK
        have p1 : wr.cell? ⟨p, 0 + 1, none⟩ = some (.slice a2 m.length c2) := cell_g hp1' hK
        have p1' : wr.cell? ⟨p, 1, none⟩ = some (.slice a2 m.length c2) := cell_g hp1 hK
        rcases (by omega : j = 0 ∨ j = 1 ∨ j = 2) with rfl | rfl | rfl
        · have hq0 : L = [] := by rcases hq with h | h | h; exact h.2; exact absurd h.1 (by decide); exact absurd h.1 (by decide)
          subst hq0
          obtain ⟨v2, w2, hq2, hO2, hg2⟩ := app_wr 28 Tryd.underlying28 _ w.heap.size u6 _ [] t hO (HT.out.keptN hK) hK.size (by simp; omega)
          have hk2 : w.grownBy w2 none := grown_new hK hg2 (fun k hk => (hO.lt k hk).1)
          clear hq HQ
          rw [show ((0 : Nat) : Int) = 0 from rfl]
          go_wp2_with (first
            | (at_builtin; refine iwpList_app_at rfl (.tmp 31) (.tmp 32) 28 28 rfl _ _ rfl rfl hq2 ?_)
            | fail)
          go_roundw
          case rel => exact ⟨1, t, by omega, by go_num, hO2, .inr (.inl ⟨rfl, rfl⟩), hk2⟩
          case measure => simp [intOf]
        · have hq0 : L = t := by rcases hq with h | h | h; exact absurd h.1 (by decide); exact h.2; exact absurd h.1 (by decide)
          subst hq0
          obtain ⟨v2, w2, hq2, hO2, hg2⟩ := app_wr 28 Tryd.underlying28 _ w.heap.size u6 _ L m hO (HM.out.keptN hK) hK.size (by omega)
          have hk2 : w.grownBy w2 none := grown_new hK hg2 (fun k hk => (hO.lt k hk).1)
          clear hq HQ
          rw [show ((1 : Nat) : Int) = 1 from rfl]
          go_wp2_with (first
            | (at_builtin; refine iwpList_app_at rfl (.tmp 31) (.tmp 32) 28 28 rfl _ _ rfl rfl hq2 ?_)
            | fail)
          go_roundw
          case rel => exact ⟨2, L ++ m, by omega, by go_num, hO2, .inr (.inr ⟨rfl, rfl⟩), hk2⟩
          case measure => simp [intOf]
        · have hq0 : L = t ++ m := by rcases hq with h | h | h; exact absurd h.1 (by decide); exact absurd h.1 (by decide); exact h.2
          subst hq0
          clear hq HQ
          rw [show ((2 : Nat) : Int) = 2 from rfl]
          go_wp2
          go_ret
          exact ⟨_, rfl, hO, hK⟩
set_option maxRecDepth 100000 in
set_option maxHeartbeats 600000 in
theorem has_any (tv mv : Value) (t m : List Wr) (w : World) (ht : Rw Wr.cells 7 w tv t) (hm : Rw Wr.cells 7 w mv m) (hb : t.length + m.length ≤ 10000000) :
    Calls Tryd.prog 8 #[tv, mv] w fun e w' => ∃ v', e = .returned v' ∧ Rw Wr.cells 7 w' v' (t ++ m) ∧ w.grownBy w' none := by
  have hga := World.grownBy_alloc w (.cells #[tv, mv] 28) none
  have p0 : (w.alloc (.cells #[tv, mv] 28)).cell? ⟨w.heap.size, 0, none⟩ = some tv := by simp
  have p1 : (w.alloc (.cells #[tv, mv] 28)).cell? ⟨w.heap.size, 1, none⟩ = some mv := by simp
  have hc := concatW tv mv t m _ w.heap.size p0 p1 (ht.keptN hga) (hm.keptN hga) hb
  obtain ⟨a1, c1, rfl, _⟩ := ht
  obtain ⟨a2, c2, rfl, _⟩ := hm
  go_enter Tryd.func8, Tryd.ntmps8
  go_wp2_with (go_at_call 17; refine hc.mono ?_; rintro e w1 ⟨v1, rfl, hO1, hK1⟩)
  have hR := hO1.rw clW
  obtain ⟨a, c, rfl, _⟩ := hO1.rw clW
  go_ret
  exact ⟨_, rfl, hR, grown_up hga hK1⟩
end Go.Proofs.YthopmlgfklhagabDoor

namespace Go.Proofs.YthopmlgfklhagabDoor
open Go Go.RowKit
set_option linter.unusedVariables false

theorem results_vR {fn : Func} {p : Tmp} (h : fn.results = #[.cell p 25]) (tmps : Array Value) (g : Nat) (W : World) (x : V) (hp : tmps.getD p undef = .pointer (some ⟨g, 0, none⟩)) (hV : Vb W g x) :
    (results fn tmps).run Tryd.prog W = .ok x.val W := by
  have e : (results fn tmps).run Tryd.prog W = ((asAddr (tmps.getD p undef)).run Tryd.prog W).andThen fun a w1 => (loadVar 25 a).run Tryd.prog w1 := by
    simp only [results, h]
    simp [Sem.run_bind, Result.andThen]
  rw [e, hp]
  simp [asAddr, Result.andThen, load_vb hV]
theorem infoV9 : (Tryd.prog.info? 25).map (fun i => (i.zero, i.size, i.bytes)) = some (some (.agg #[.int .i64 0, .int .i64 0, .string ByteArray.empty]), 3, 32) := by kernel_rfl
theorem rnought (w : World) : Calls Tryd.prog 21 #[] w fun e w' => e = .returned (.agg #[.int .i64 1, .int .i64 0, .string ⟨#[]⟩]) ∧ w.grownBy w' none := by
  have hV : Vb (w.alloc (.cells #[.int .i64 1, .int .i64 0, .string ⟨#[]⟩] 25)) w.heap.size ⟨1, 0, ⟨#[]⟩⟩ := Vb.new w ⟨1, 0, ⟨#[]⟩⟩
  go_enter Tryd.func21, Tryd.ntmps21
  go_wp2
  refine bodyPost_ret (results_vR rfl _ w.heap.size _ ⟨1, 0, ⟨#[]⟩⟩ rfl hV) rfl ?_
  exact ⟨rfl, World.grownBy_alloc _ _ _⟩
/-- A frame in a block of its own. -/
def Fb (w : World) (b : Nat) (pc : Int) (v : Value) : Prop := w.heap[b]? = some (.cells #[.int .i64 pc, v] 35 (0, 0))
theorem Fb.lt {w : World} {b : Nat} {pc : Int} {v : Value} (h : Fb w b pc v) : b < w.heap.size := (Array.getElem?_eq_some_iff.1 h).1
theorem Fb.c0 {w : World} {b : Nat} {pc : Int} {v : Value} (h : Fb w b pc v) : w.cell? ⟨b, 0, none⟩ = some (.int .i64 pc) := by rw [cell_of_row w b 0 _ 35 (0, 0) h]; rfl
theorem Fb.c1 {w : World} {b : Nat} {pc : Int} {v : Value} (h : Fb w b pc v) : w.cell? ⟨b, 1, none⟩ = some v := by rw [cell_of_row w b 1 _ 35 (0, 0) h]; rfl
theorem Fb.fz {w : World} {b : Nat} {pc : Int} {v : Value} (h : Fb w b pc v) (j : Nat) : w.frozen? ⟨b, j, none⟩ = false := by
  unfold World.frozen?
  rw [show w.heap[(⟨b, j, none⟩ : Addr).block]? = _ from h]
  simp
theorem Fb.kept {w w' : World} {b : Nat} {pc : Int} {v : Value} {row : Option Nat} (h : Fb w b pc v) (hg : w.grownBy w' row) (hne : some b ≠ row) : Fb w' b pc v := by
  unfold Fb
  rw [hg.block b h.lt hne]
  exact h
theorem Fb.set1 {w : World} {b : Nat} {pc : Int} {v : Value} (h : Fb w b pc v) (u : Value) : Fb (w.setCell ⟨b, 1, none⟩ u) b pc u := by
  unfold Fb
  rw [heap_setCell_same w b 1 _ 35 u h]
  rfl
theorem grown_setF (w : World) (q j : Nat) (v : Value) : w.grownBy (w.setCell ⟨q, j, none⟩ v) (some q) := ⟨rfl, rfl, rfl, by simp, fun k _ hk => heap_setCell_other w _ k _ (fun hb => hk (by simp [hb]))⟩
theorem Fb.set01 {w : World} {b : Nat} {pc : Int} {v : Value} (h : Fb w b pc v) (z : Int) (a : Option Addr) (n c : Nat) : Fb ((w.setCell ⟨b, 0, none⟩ (.int .i64 z)).setCell ⟨b, 1, none⟩ (.slice a n c)) b z (.slice a n c) ∧ w.grownBy ((w.setCell ⟨b, 0, none⟩ (.int .i64 z)).setCell ⟨b, 1, none⟩ (.slice a n c)) (some b) := by
  constructor
  · unfold Fb
    have h1 := heap_setCell_same w b 0 _ 35 (.int .i64 z) h
    rw [heap_setCell_same _ b 1 _ 35 (.slice a n c) h1]
    rfl
  · exact grown_trans (grown_setF _ _ _ _) (grown_setF _ _ _ _) (.inl rfl)
theorem load_fb {w : World} {g : Nat} {pc : Int} {a : Option Addr} {n c : Nat} (h : Fb w g pc (.slice a n c)) : (loadVar 35 ⟨g, 0, none⟩).run Tryd.prog w = .ok (.agg #[.int .i64 pc, .slice a n c]) w := by
  have c0 := h.c0
  have c1 := h.c1
  go_simp
theorem results_fb {fn : Func} {p : Tmp} (h : fn.results = #[.cell p 35]) (tmps : Array Value) (g : Nat) (W : World) (pc : Int) (a : Option Addr) (n c : Nat) (hp : tmps.getD p undef = .pointer (some ⟨g, 0, none⟩)) (hV : Fb W g pc (.slice a n c)) :
    (results fn tmps).run Tryd.prog W = .ok (.agg #[.int .i64 pc, .slice a n c]) W := by
  have e : (results fn tmps).run Tryd.prog W = ((asAddr (tmps.getD p undef)).run Tryd.prog W).andThen fun a w1 => (loadVar 35 a).run Tryd.prog w1 := by
    simp only [results, h]
    simp [Sem.run_bind, Result.andThen]
  rw [e, hp]
  simp [asAddr, Result.andThen, load_fb hV]
theorem rgF_take (x : V) (m : Nat) (h1 : 1 ≤ m) (h : m < 6) : (rgF x).take (m + 1) = (rgF x).take m ++ [nV 0] := by
  rcases (by omega : m = 1 ∨ m = 2 ∨ m = 3 ∨ m = 4 ∨ m = 5) with rfl | rfl | rfl | rfl | rfl <;> rfl
theorem rgF_len (x : V) (m : Nat) (h : m ≤ 6) : ((rgF x).take m).length = m := by
  rw [List.length_take]
  show min m 6 = m
  omega
set_option maxRecDepth 100000 in
set_option maxHeartbeats 2000000 in
theorem rfirst_any (x : V) (w : World) : Calls Tryd.prog 11 #[x.val] w fun e w' => (∃ a c, e = .returned (.agg #[.int .i64 0, .slice a 6 c]) ∧ Rw V.cells 3 w' (.slice a 6 c) (rgF x)) ∧ w.grownBy w' none := by
  have gA := World.grownBy_alloc w (.cells #[.int .i64 x.k, .int .i64 x.n, .string x.s] 25) none
  have gB := World.grownBy_alloc (w.alloc (.cells #[.int .i64 x.k, .int .i64 x.n, .string x.s] 25)) (.cells #[.int .i64 0, .slice none 0 0] 35) none
  have hB0 : Fb ((w.alloc (.cells #[.int .i64 x.k, .int .i64 x.n, .string x.s] 25)).alloc (.cells #[.int .i64 0, .slice none 0 0] 35)) (w.heap.size + 1) 0 (.slice none 0 0) := by have := heap_alloc_new (w.alloc (.cells #[.int .i64 x.k, .int .i64 x.n, .string x.s] 25)) (.cells #[.int .i64 0, .slice none 0 0] 35); rw [World.size_alloc] at this; exact this
  have hX0 := (Vb.new w x).kept gB (by simp)
  have G0 := grown_up gA gB
  unfold V.val
  have x0 := hX0.c0; have x1 := hX0.c1; have x2 := hX0.c2
  go_enter Tryd.func11, Tryd.ntmps11
  go_upto_region 1 with fail
  generalize (w.alloc (.cells #[.int .i64 x.k, .int .i64 x.n, .string x.s] 25)).alloc (.cells #[.int .i64 0, .slice none 0 0] 35) = W0 at *
  have gC := World.grownBy_alloc W0 (.cells #[.int .i64 x.k, .int .i64 x.n, .string x.s] 25) none
  have gD := World.grownBy_alloc (W0.alloc (.cells #[.int .i64 x.k, .int .i64 x.n, .string x.s] 25)) (.cells #[.int .i64 0, .slice (some ⟨W0.heap.size, 0, none⟩) 1 1] 35) none
  have hF1 : Fb ((W0.alloc (.cells #[.int .i64 x.k, .int .i64 x.n, .string x.s] 25)).alloc (.cells #[.int .i64 0, .slice (some ⟨W0.heap.size, 0, none⟩) 1 1] 35)) (W0.heap.size + 1) 0 (.slice (some ⟨W0.heap.size, 0, none⟩) 1 1) := by have := heap_alloc_new (W0.alloc (.cells #[.int .i64 x.k, .int .i64 x.n, .string x.s] 25)) (.cells #[.int .i64 0, .slice (some ⟨W0.heap.size, 0, none⟩) 1 1] 35); rw [World.size_alloc] at this; exact this
  have hO1 : OwR V.cells 3 25 (W0.alloc (.cells #[.int .i64 x.k, .int .i64 x.n, .string x.s] 25)) W0.heap.size (.slice (some ⟨W0.heap.size, 0, none⟩) 1 1) ((rgF x).take 1) := by
    have h := World.ownsRow_lit (base := W0.heap.size) (e := 25) (size := 3) W0 #[.int .i64 x.k, .int .i64 x.n, .string x.s] 1 (Nat.le_refl _) (by unfold maxLen; omega) (by simp)
    unfold OwR
    simpa [rgF, fcs, V.cells] using h
  have hO2 := hO1.keptN gD
  have hB2 := (hB0.kept gC (by simp)).kept gD (by simp)
  have G2 := grown_up (grown_up G0 gC) gD
  have hq := hB0.lt
  go_upto_region 2 with fail
  clear hO1 gC gD hB0 hX0 x0 x1 x2 G0
  generalize (W0.alloc (.cells #[.int .i64 x.k, .int .i64 x.n, .string x.s] 25)).alloc (.cells #[.int .i64 0, .slice (some ⟨W0.heap.size, 0, none⟩) 1 1] 35) = W1 at *
  obtain ⟨bs, Hbs⟩ : ∃ bs, Hid (W0.heap.size = bs) := ⟨_, rfl⟩
  have hbs := Hbs.out
  rw [hbs] at hF1 hO2 hq ⊢
  have hws : w.heap.size + 1 < bs := hq
  have hbz : bs + 1 < W1.heap.size := hF1.lt
  go_loopw [7] (fun _ wr => ∃ (m : Nat) (a : Option Addr) (c : Nat), 1 ≤ m ∧ m ≤ 6 ∧ Fb wr (bs + 1) 0 (.slice a m c) ∧ OwR V.cells 3 25 wr bs (.slice a m c) ((rgF x).take m) ∧ (Value.slice a m c).ownBlock ≠ some (bs + 1) ∧ Fb wr (w.heap.size + 1) 0 (.slice none 0 0) ∧ w.grownBy wr none ∧ bs + 1 < wr.heap.size) (fun _ wr => match wr.cell? ⟨bs + 1, 1, none⟩ with | some (.slice _ n _) => 6 - n | _ => 0)
  case atStart => exact ⟨1, _, _, Nat.le_refl _, by omega, hF1, hO2, by simp [Value.ownBlock], hB2, G2, hbz⟩
  case round =>
    clear hF1 hO2 hB2 G2 hbz
    obtain ⟨m, a, c, h1, h6, hF, hO, hne, hB, hg, hz⟩ := hrel
    have f1 := hF.c1
    by_cases hlt : m < 6
    · have hmi : (m : Int) < 6 := by omega
      go_upto_region 3 with fail
      have gdr := grown_dr wr
      have hFd := hF.kept gdr (by simp)
      have hOd := hO.keptN gdr
      have hBd := hB.kept gdr (by simp)
      have hgd := grown_up hg gdr
      have a1 := hFd.c1
      refine wp_region_held_drew (S := fun _ => True) (by kernel_rfl) (trivial) (fun hHeld => ?_)
      refine take_at (i := 0) (d := 11) (v := ?_) rfl rfl (by kernel_rfl) (by kernel_rfl) (by kernel_rfl) (fun _ _ _ h => h) (Or.inl ⟨by rfl, ?_⟩) (by assumption) ?_
      rotate_left
      · intro W hSW
        try dsimp only at hSW
        go_simp
        try with_reducible rfl
      try simp only [Act.put, List.setIfInBounds_toArray, List.set_cons_zero, List.set_cons_succ]
      refine wpAnyH_ready (rs := [1, 2]) (by kernel_rfl) (by simp) ?_
      refine AllReadyH.cons rfl (fun K hK => ?_) ?_
      · go_simp
        refine hK.out _ _ (trivial) (fun hHeld => ?_)
        clear hK K
        try simp only [Act.put, List.setIfInBounds_toArray, List.set_cons_zero, List.set_cons_succ]
        refine wpAnyH_ready (rs := [2]) (by kernel_rfl) (by simp) ?_
        refine AllReadyH.cons rfl (fun K hK => ?_) ?_
        · go_simp
          go_wp2_with (go_at_call 21; refine (rnought _).mono ?_; rintro e w3 ⟨rfl, hg3⟩)
          refine hK.out _ _ (trivial) (fun hHeld => ?_)
          clear hK K
          try simp only [Act.put, List.setIfInBounds_toArray, List.set_cons_zero, List.set_cons_succ]
          have a1 := (hFd.kept hg3 (by simp)).c1
          have hga := World.grownBy_alloc w3 (.cells #[.int .i64 1, .int .i64 0, .string ⟨#[]⟩] 25) none
          have hg4 := grown_up hg3 hga
          have a1 := (hFd.kept hg4 (by simp)).c1
          have hheap : (World.alloc w3 (.cells #[.int .i64 1, .int .i64 0, .string ⟨#[]⟩] 25)).heap[w3.heap.size]? = some (.cells (V.cells (nV 0)).toArray 25 (0, 0)) := heap_alloc_new w3 (.cells #[.int .i64 1, .int .i64 0, .string ⟨#[]⟩] 25)
          obtain ⟨pr, pcap, w5, hrun, hO5, hg5, hw5⟩ := app_oneR clV (by omega) 33 25 Tryd.underlying33 (.agg #[.int .i64 0, .int .i64 0, .string ByteArray.empty]) 32 infoV9 (by rfl) (by omega) (World.alloc w3 (.cells #[.int .i64 1, .int .i64 0, .string ⟨#[]⟩] 25)) bs (.slice a m c) ((rgF x).take m) (nV 0) w3.heap.size (hOd.keptN hg4) hheap (by have h1 := hg4.size; have h2 := gdr.size; omega) (by rw [rgF_len x m h6]; omega)
          rw [rgF_len x m h6] at hrun hO5
          rw [← rgF_take x m h1 hlt] at hO5
          have hF5 := (hFd.kept hg4 (by simp)).kept hg5 (fun e => hne e.symm)
          have hB5 := (hBd.kept hg4 (by simp)).kept hg5 (fun e => by have := (hO.lt _ e.symm).1; omega)
          have k5 := hF5.c1
          have z5 := hF5.fz 1
          have hG5 : w.grownBy w5 none := grown_new (grown_up hgd hg4) hg5 (fun j e => by have := (hO.lt _ e).1; omega)
          refine wpAnyH_ready (rs := [3]) (by kernel_rfl) (by simp) ?_
          refine AllReadyH.cons rfl (fun K hK => ?_) ?_
          · go_simp
            refine hK.out _ _ (trivial) (fun hHeld => ?_)
            clear hK K
            try simp only [Act.put, List.setIfInBounds_toArray, List.set_cons_zero, List.set_cons_succ]
            refine wpAnyH_ready (rs := [4]) (by kernel_rfl) (by simp) ?_
            refine AllReadyH.cons rfl (fun K hK => ?_) ?_
            · refine hstep_app 15 (by rfl) (by rfl) (.tmp 12) (.tmp 14) 33 33 33 (by rfl) (by rfl) (.slice a m c) (.slice (some ⟨w3.heap.size, 0, none⟩) 1 1) (by rfl) (by rfl) hrun ?_
              refine hK.out _ _ (trivial) (fun hHeld => ?_)
              clear hK K
              try simp only [Act.put, List.setIfInBounds_toArray, List.set_cons_zero, List.set_cons_succ]
              refine take_at (i := 5) (d := 16) (v := ?_) rfl rfl (by kernel_rfl) (by kernel_rfl) (by kernel_rfl) (fun _ _ _ h => h) (Or.inl ⟨by rfl, ?_⟩) (by assumption) ?_
              rotate_left
              · intro W hSW
                try dsimp only at hSW
                go_simp
                try with_reducible rfl
              try simp only [Act.put, List.setIfInBounds_toArray, List.set_cons_zero, List.set_cons_succ]
              refine wpAnyH_ready (rs := [6]) (by kernel_rfl) (by simp) ?_
              refine AllReadyH.cons rfl (fun K hK => ?_) ?_
              · go_simp
                refine hK.out _ _ (trivial) (fun hHeld => ?_)
                clear hK K
                try simp only [Act.put, List.setIfInBounds_toArray, List.set_cons_zero, List.set_cons_succ]
                refine wpAnyH_done (by kernel_rfl) ?_ _
                have hpr : pr ≠ bs + 1 := fun e2 => hw5.elim (fun h => hne (by rw [← h, e2])) (fun h => by have h2 := Option.some.inj h; have h3 := hg4.size; have h4 := gdr.size; omega)
                have hF6 := hF5.set1 (.slice (some ⟨pr, 0, none⟩) (m + 1) pcap)
                have hs6 := grown_setF w5 (bs + 1) 1 (.slice (some ⟨pr, 0, none⟩) (m + 1) pcap)
                have hO6 := hO5.kept hs6 (by right; intro e; exact hpr (Option.some.inj e))
                have hB6 := hB5.kept hs6 (by simp; omega)
                have hG6 : w.grownBy (w5.setCell ⟨bs + 1, 1, none⟩ (.slice (some ⟨pr, 0, none⟩) (m + 1) pcap)) none := grown_new hG5 hs6 (fun j e => by cases e; omega)
                have hz6 : bs + 1 < w5.heap.size := hF5.lt
                go_wp2
                go_roundw
                case rel => exact ⟨m + 1, _, _, by omega, by omega, hF6, hO6, fun e => hpr (Option.some.inj e), hB6, hG6, by rw [World.size_setCell]; exact hz6⟩
                case measure => rw [hF6.c1, f1]; dsimp only; omega
              exact AllReadyH.nil
            exact AllReadyH.nil
          exact AllReadyH.nil
        exact AllReadyH.nil
      refine AllReadyH.cons rfl (fun K hK => ?_) ?_
      · go_simp
        go_wp2_with (go_at_call 21; refine (rnought _).mono ?_; rintro e w3 ⟨rfl, hg3⟩)
        refine hK.out _ _ (trivial) (fun hHeld => ?_)
        clear hK K
        try simp only [Act.put, List.setIfInBounds_toArray, List.set_cons_zero, List.set_cons_succ]
        have a1 := (hFd.kept hg3 (by simp)).c1
        have hga := World.grownBy_alloc w3 (.cells #[.int .i64 1, .int .i64 0, .string ⟨#[]⟩] 25) none
        have hg4 := grown_up hg3 hga
        have a1 := (hFd.kept hg4 (by simp)).c1
        have hheap : (World.alloc w3 (.cells #[.int .i64 1, .int .i64 0, .string ⟨#[]⟩] 25)).heap[w3.heap.size]? = some (.cells (V.cells (nV 0)).toArray 25 (0, 0)) := heap_alloc_new w3 (.cells #[.int .i64 1, .int .i64 0, .string ⟨#[]⟩] 25)
        obtain ⟨pr, pcap, w5, hrun, hO5, hg5, hw5⟩ := app_oneR clV (by omega) 33 25 Tryd.underlying33 (.agg #[.int .i64 0, .int .i64 0, .string ByteArray.empty]) 32 infoV9 (by rfl) (by omega) (World.alloc w3 (.cells #[.int .i64 1, .int .i64 0, .string ⟨#[]⟩] 25)) bs (.slice a m c) ((rgF x).take m) (nV 0) w3.heap.size (hOd.keptN hg4) hheap (by have h1 := hg4.size; have h2 := gdr.size; omega) (by rw [rgF_len x m h6]; omega)
        rw [rgF_len x m h6] at hrun hO5
        rw [← rgF_take x m h1 hlt] at hO5
        have hF5 := (hFd.kept hg4 (by simp)).kept hg5 (fun e => hne e.symm)
        have hB5 := (hBd.kept hg4 (by simp)).kept hg5 (fun e => by have := (hO.lt _ e.symm).1; omega)
        have k5 := hF5.c1
        have z5 := hF5.fz 1
        have hG5 : w.grownBy w5 none := grown_new (grown_up hgd hg4) hg5 (fun j e => by have := (hO.lt _ e).1; omega)
        refine wpAnyH_ready (rs := [1, 3]) (by kernel_rfl) (by simp) ?_
        refine AllReadyH.cons rfl (fun K hK => ?_) ?_
        · go_simp
          refine hK.out _ _ (trivial) (fun hHeld => ?_)
          clear hK K
          try simp only [Act.put, List.setIfInBounds_toArray, List.set_cons_zero, List.set_cons_succ]
          refine wpAnyH_ready (rs := [3]) (by kernel_rfl) (by simp) ?_
          refine AllReadyH.cons rfl (fun K hK => ?_) ?_
          · go_simp
            refine hK.out _ _ (trivial) (fun hHeld => ?_)
            clear hK K
            try simp only [Act.put, List.setIfInBounds_toArray, List.set_cons_zero, List.set_cons_succ]
            refine wpAnyH_ready (rs := [4]) (by kernel_rfl) (by simp) ?_
            refine AllReadyH.cons rfl (fun K hK => ?_) ?_
            · refine hstep_app 15 (by rfl) (by rfl) (.tmp 12) (.tmp 14) 33 33 33 (by rfl) (by rfl) (.slice a m c) (.slice (some ⟨w3.heap.size, 0, none⟩) 1 1) (by rfl) (by rfl) hrun ?_
              refine hK.out _ _ (trivial) (fun hHeld => ?_)
              clear hK K
              try simp only [Act.put, List.setIfInBounds_toArray, List.set_cons_zero, List.set_cons_succ]
              refine take_at (i := 5) (d := 16) (v := ?_) rfl rfl (by kernel_rfl) (by kernel_rfl) (by kernel_rfl) (fun _ _ _ h => h) (Or.inl ⟨by rfl, ?_⟩) (by assumption) ?_
              rotate_left
              · intro W hSW
                try dsimp only at hSW
                go_simp
                try with_reducible rfl
              try simp only [Act.put, List.setIfInBounds_toArray, List.set_cons_zero, List.set_cons_succ]
              refine wpAnyH_ready (rs := [6]) (by kernel_rfl) (by simp) ?_
              refine AllReadyH.cons rfl (fun K hK => ?_) ?_
              · go_simp
                refine hK.out _ _ (trivial) (fun hHeld => ?_)
                clear hK K
                try simp only [Act.put, List.setIfInBounds_toArray, List.set_cons_zero, List.set_cons_succ]
                refine wpAnyH_done (by kernel_rfl) ?_ _
                have hpr : pr ≠ bs + 1 := fun e2 => hw5.elim (fun h => hne (by rw [← h, e2])) (fun h => by have h2 := Option.some.inj h; have h3 := hg4.size; have h4 := gdr.size; omega)
                have hF6 := hF5.set1 (.slice (some ⟨pr, 0, none⟩) (m + 1) pcap)
                have hs6 := grown_setF w5 (bs + 1) 1 (.slice (some ⟨pr, 0, none⟩) (m + 1) pcap)
                have hO6 := hO5.kept hs6 (by right; intro e; exact hpr (Option.some.inj e))
                have hB6 := hB5.kept hs6 (by simp; omega)
                have hG6 : w.grownBy (w5.setCell ⟨bs + 1, 1, none⟩ (.slice (some ⟨pr, 0, none⟩) (m + 1) pcap)) none := grown_new hG5 hs6 (fun j e => by cases e; omega)
                have hz6 : bs + 1 < w5.heap.size := hF5.lt
                go_wp2
                go_roundw
                case rel => exact ⟨m + 1, _, _, by omega, by omega, hF6, hO6, fun e => hpr (Option.some.inj e), hB6, hG6, by rw [World.size_setCell]; exact hz6⟩
                case measure => rw [hF6.c1, f1]; dsimp only; omega
              exact AllReadyH.nil
            exact AllReadyH.nil
          exact AllReadyH.nil
        refine AllReadyH.cons rfl (fun K hK => ?_) ?_
        · go_simp
          refine hK.out _ _ (trivial) (fun hHeld => ?_)
          clear hK K
          try simp only [Act.put, List.setIfInBounds_toArray, List.set_cons_zero, List.set_cons_succ]
          refine wpAnyH_ready (rs := [1]) (by kernel_rfl) (by simp) ?_
          refine AllReadyH.cons rfl (fun K hK => ?_) ?_
          · go_simp
            refine hK.out _ _ (trivial) (fun hHeld => ?_)
            clear hK K
            try simp only [Act.put, List.setIfInBounds_toArray, List.set_cons_zero, List.set_cons_succ]
            refine wpAnyH_ready (rs := [4]) (by kernel_rfl) (by simp) ?_
            refine AllReadyH.cons rfl (fun K hK => ?_) ?_
            · refine hstep_app 15 (by rfl) (by rfl) (.tmp 12) (.tmp 14) 33 33 33 (by rfl) (by rfl) (.slice a m c) (.slice (some ⟨w3.heap.size, 0, none⟩) 1 1) (by rfl) (by rfl) hrun ?_
              refine hK.out _ _ (trivial) (fun hHeld => ?_)
              clear hK K
              try simp only [Act.put, List.setIfInBounds_toArray, List.set_cons_zero, List.set_cons_succ]
              refine take_at (i := 5) (d := 16) (v := ?_) rfl rfl (by kernel_rfl) (by kernel_rfl) (by kernel_rfl) (fun _ _ _ h => h) (Or.inl ⟨by rfl, ?_⟩) (by assumption) ?_
              rotate_left
              · intro W hSW
                try dsimp only at hSW
                go_simp
                try with_reducible rfl
              try simp only [Act.put, List.setIfInBounds_toArray, List.set_cons_zero, List.set_cons_succ]
              refine wpAnyH_ready (rs := [6]) (by kernel_rfl) (by simp) ?_
              refine AllReadyH.cons rfl (fun K hK => ?_) ?_
              · go_simp
                refine hK.out _ _ (trivial) (fun hHeld => ?_)
                clear hK K
                try simp only [Act.put, List.setIfInBounds_toArray, List.set_cons_zero, List.set_cons_succ]
                refine wpAnyH_done (by kernel_rfl) ?_ _
                have hpr : pr ≠ bs + 1 := fun e2 => hw5.elim (fun h => hne (by rw [← h, e2])) (fun h => by have h2 := Option.some.inj h; have h3 := hg4.size; have h4 := gdr.size; omega)
                have hF6 := hF5.set1 (.slice (some ⟨pr, 0, none⟩) (m + 1) pcap)
                have hs6 := grown_setF w5 (bs + 1) 1 (.slice (some ⟨pr, 0, none⟩) (m + 1) pcap)
                have hO6 := hO5.kept hs6 (by right; intro e; exact hpr (Option.some.inj e))
                have hB6 := hB5.kept hs6 (by simp; omega)
                have hG6 : w.grownBy (w5.setCell ⟨bs + 1, 1, none⟩ (.slice (some ⟨pr, 0, none⟩) (m + 1) pcap)) none := grown_new hG5 hs6 (fun j e => by cases e; omega)
                have hz6 : bs + 1 < w5.heap.size := hF5.lt
                go_wp2
                go_roundw
                case rel => exact ⟨m + 1, _, _, by omega, by omega, hF6, hO6, fun e => hpr (Option.some.inj e), hB6, hG6, by rw [World.size_setCell]; exact hz6⟩
                case measure => rw [hF6.c1, f1]; dsimp only; omega
              exact AllReadyH.nil
            exact AllReadyH.nil
          exact AllReadyH.nil
        exact AllReadyH.nil
      exact AllReadyH.nil
    · have hm6 : m = 6 := by omega
      subst hm6
      have f0 := hF.c0
      have b0 := hB.c0; have b1 := hB.c1
      have z0 := hB.fz 0; have z1 := hB.fz 1
      have hh := hB.set01 0 a 6 c
      have hR : Rw V.cells 3 wr (.slice a 6 c) (rgF x) := by have := hO.rw clV; exact this
      have hR2 : Rw V.cells 3 ((wr.setCell ⟨w.heap.size + 1, 0, none⟩ (.int .i64 0)).setCell ⟨w.heap.size + 1, 1, none⟩ (.slice a 6 c)) (.slice a 6 c) (rgF x) := by
        have h9 : OwR V.cells 3 25 ((wr.setCell ⟨w.heap.size + 1, 0, none⟩ (.int .i64 0)).setCell ⟨w.heap.size + 1, 1, none⟩ (.slice a 6 c)) bs (.slice a 6 c) ((rgF x).take 6) := hO.kept hh.2 (by
          right
          intro e
          have := (hO.lt _ e).1
          omega)
        exact h9.rw clV
      go_wp2_with fail
      refine bodyPost_ret (results_fb rfl _ (w.heap.size + 1) _ 0 a 6 c rfl hh.1) rfl ?_
      exact ⟨⟨a, c, rfl, hR2⟩, grown_new hg hh.2 (fun j e => by cases e; omega)⟩
end Go.Proofs.YthopmlgfklhagabDoor
