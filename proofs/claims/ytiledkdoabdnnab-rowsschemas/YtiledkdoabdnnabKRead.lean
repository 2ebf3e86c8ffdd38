/- Contracts, over the turned program: keys.Read answers the tuple that bytes are, or the first error, as the document says. Conditions: those that each theorem states. -/
import Derived.Test.YtiledkdoabdnnabKParse
import Derived.WalkLawsBesides
import Derived.Deep.CutRange
import Derived.Deep.RegionWith
import Derived.Deep.RegionHeldLaw
import Derived.Laws.ResultCell
namespace Go.Proofs.Ytiledkdoabdnnab
open Go.RowKit
set_option linter.unusedVariables false

theorem grown_any {w w' : World} {row : Option Nat} (h : w.grownBy w' none) : w.grownBy w' row := ⟨h.os, h.tape, h.output, h.size, fun k hk _ => h.block k hk (by simp)⟩
theorem grown_new {w w1 w2 : World} {row row' : Option Nat} (h : w.grownBy w1 row) (h' : w1.grownBy w2 row') (hr : ∀ k, row' = some k → w.heap.size ≤ k) : w.grownBy w2 row :=
  ⟨h'.os.trans h.os, h'.tape.trans h.tape, h'.output.trans h.output, Nat.le_trans h.size h'.size, fun k hk hne => by
    rw [h'.block k (Nat.lt_of_lt_of_le hk h.size) (by intro he; have := hr k he.symm; omega)]
    exact h.block k hk hne⟩
theorem grown_up {w w1 w2 : World} {row : Option Nat} (h : w.grownBy w1 row) (h' : w1.grownBy w2 none) : w.grownBy w2 row :=
  ⟨h'.os.trans h.os, h'.tape.trans h.tape, h'.output.trans h.output, Nat.le_trans h.size h'.size, fun k hk hne => by
    rw [h'.block k (Nat.lt_of_lt_of_le hk h.size) (by simp)]
    exact h.block k hk hne⟩

/-- What stands behind a 0: the end, a 0, or an error; and the bytes behind. -/
def mark : List UInt8 → Bool × Int
  | [] => (false, 2)
  | m :: _ => if m = 1 then (true, 0) else if m = 255 then (false, 0) else (false, 5)

set_option maxRecDepth 100000 in
set_option maxHeartbeats 400000 in
theorem readMark_nil (b : Nat) (w : World) (h : Rd w b (mkB []) 0) :
    Calls Try.prog 50 #[.pointer (some ⟨b, 0, none⟩)] w fun e w' => e = .returned (.tuple #[.bool false, .int .i64 2]) ∧ w.grownBy w' (some b) := by
  go_enter Try.func50, Try.ntmps50
  go_wp2_with (first
    | (go_at_call 18; refine (rnum_short b 1 [] _ h (by decide)).mono ?_; rintro e w1 ⟨rfl, h1, hg1⟩)
    | (go_at_call 33; refine (err_any _ _ _ _ h1).mono ?_; rintro e w2 ⟨rfl, rfl⟩))
  go_ret2
  exact ⟨rfl, hg1⟩

set_option maxRecDepth 100000 in
set_option maxHeartbeats 400000 in
theorem readMark_cons (b : Nat) (m : UInt8) (r : List UInt8) (w : World) (h : Rd w b (mkB (m :: r)) 0) (hs : (m :: r).length ≤ maxLen) :
    Calls Try.prog 50 #[.pointer (some ⟨b, 0, none⟩)] w fun e w' => e = .returned (.tuple #[.bool (mark (m :: r)).1, .int .i64 (mark (m :: r)).2]) ∧ Rd w' b (mkB r) 0 ∧ w.grownBy w' (some b) := by
  by_cases h1 : m = 1
  · subst h1
    go_enter Try.func50, Try.ntmps50
    go_wp2_with (first
      | (go_at_call 18; refine (rnum1_cons b _ _ _ h hs).mono ?_; rintro e w1 ⟨rfl, h1, hg1⟩)
      | (go_at_call 33; refine (err_any _ _ _ _ h1).mono ?_; rintro e w2 ⟨rfl, rfl⟩))
    go_ret2
    exact ⟨rfl, h1, hg1⟩
  · have n1 : ((m.toNat : Int) == 1) = false := by
      rw [beq_eq_false_iff_ne]
      intro h
      exact h1 (UInt8.toNat_inj.1 (by simp; omega))
    by_cases h2 : m = 255
    · subst h2
      go_enter Try.func50, Try.ntmps50
      go_wp2_with (first
        | (go_at_call 18; refine (rnum1_cons b _ _ _ h hs).mono ?_; rintro e w1 ⟨rfl, h1, hg1⟩)
        | (go_at_call 33; refine (err_any _ _ _ _ h1).mono ?_; rintro e w2 ⟨rfl, rfl⟩))
      go_ret2
      exact ⟨rfl, h1, hg1⟩
    · have n2 : ((m.toNat : Int) == 255) = false := by
        rw [beq_eq_false_iff_ne]
        intro h
        exact h2 (UInt8.toNat_inj.1 (by simp; omega))
      have e : mark (m :: r) = (false, 5) := by simp [mark, h1, h2]
      rw [e]
      clear h1 h2 e
      go_enter Try.func50, Try.ntmps50
      go_wp2_with (first
        | (go_at_call 18; refine (rnum1_cons b _ _ _ h hs).mono ?_; rintro e w1 ⟨rfl, h1, hg1⟩)
        | (go_at_call 33; refine (err_any _ _ _ _ h1).mono ?_; rintro e w2 ⟨rfl, rfl⟩))
      go_ret2
      exact ⟨rfl, h1, hg1⟩

theorem readMark_end (b : Nat) (r : List UInt8) (w : World) (h : Rd w b (mkB (1 :: r)) 0) (hs : (1 :: r).length ≤ maxLen) :
    Calls Try.prog 50 #[.pointer (some ⟨b, 0, none⟩)] w fun e w' => e = .returned (.tuple #[.bool true, .int .i64 0]) ∧ Rd w' b (mkB r) 0 ∧ w.grownBy w' (some b) := readMark_cons b 1 r w h hs
theorem readMark_go (b : Nat) (r : List UInt8) (w : World) (h : Rd w b (mkB (255 :: r)) 0) (hs : (255 :: r).length ≤ maxLen) :
    Calls Try.prog 50 #[.pointer (some ⟨b, 0, none⟩)] w fun e w' => e = .returned (.tuple #[.bool false, .int .i64 0]) ∧ Rd w' b (mkB r) 0 ∧ w.grownBy w' (some b) := readMark_cons b 255 r w h hs
theorem readMark_bad (b : Nat) (m : UInt8) (r : List UInt8) (w : World) (h : Rd w b (mkB (m :: r)) 0) (hs : (m :: r).length ≤ maxLen) (h1 : m ≠ 1) (h2 : m ≠ 255) :
    Calls Try.prog 50 #[.pointer (some ⟨b, 0, none⟩)] w fun e w' => e = .returned (.tuple #[.bool false, .int .i64 5]) ∧ Rd w' b (mkB r) 0 ∧ w.grownBy w' (some b) := by
  have := readMark_cons b m r w h hs
  rw [show mark (m :: r) = (false, 5) by simp [mark, h1, h2]] at this
  exact this

theorem left_none (b : Nat) (e : Int) (w : World) (h : Rd w b (mkB []) e) :
    Calls Try.prog 34 #[.pointer (some ⟨b, 0, none⟩)] w fun x w' => x = .returned (.int .i64 0) ∧ w' = w := left_any b _ e w h
theorem left_some (b : Nat) (c : UInt8) (r : List UInt8) (e : Int) (w : World) (h : Rd w b (mkB (c :: r)) e) :
    Calls Try.prog 34 #[.pointer (some ⟨b, 0, none⟩)] w fun x w' => ∃ n : Int, x = .returned (.int .i64 n) ∧ 0 < n ∧ w' = w := by
  refine (left_any b _ e w h).mono ?_
  rintro x w' ⟨rfl, rfl⟩
  exact ⟨_, rfl, by rw [mkB_size]; simp, rfl⟩
theorem own_ne {e : TypeId} {w : World} {base b : Nat} {v : Value} {l : List UInt8} (h : Own e w base v l) (hb : b < base) : v.ownBlock = none ∨ v.ownBlock ≠ some b := by
  right
  intro hv
  have := (h.lt b hv).1
  omega

/-- What a reading call tells: the value and what is left, or the error. -/
def Told (w' : World) (b : Nat) (x : Except Int (List UInt8 × List UInt8)) (t : ByteArray) (er : Int) : Prop :=
  match x with
  | .ok (t', q) => t = mkB t' ∧ er = 0 ∧ Rd w' b (mkB q) 0
  | .error e => er = e

set_option maxRecDepth 100000 in
set_option maxHeartbeats 400000 in
theorem readText_any (b : Nat) (l : List UInt8) (w : World) (h : Rd w b (mkB l) 0) (hs : l.length ≤ 1099511627776) :
    Calls Try.prog 47 #[.pointer (some ⟨b, 0, none⟩)] w fun e w' => ∃ t er, e = .returned (.tuple #[.string t, .int .i64 er]) ∧ Told w' b (pText l) t er ∧ w.grownBy w' (some b) := by
  obtain ⟨i0, hi, hz0, hz1, hz2⟩ := info_parts Try.info5
  have Hs : Hid (l.length ≤ 1099511627776) := hs
  have hbl := h.lt
  clear hs
  go_enter Try.func47, Try.ntmps47
  go_wp2_with fail
  go_loopw [4] (fun v wr => ∃ acc q : List UInt8, Hid (pre acc (pText q) = pText l) ∧ Hid (acc.length + q.length ≤ l.length) ∧ Own 5 wr w.heap.size v acc ∧ Rd wr b (mkB q) 0 ∧ w.grownBy wr (some b)) (fun _ wr => (match wr.cell? ⟨b, 0, none⟩ with | some (.string s) => s.size | _ => 0))
  case atStart => exact ⟨[], l, pre_nil _, by show _ ≤ _; simp, Own.nil _ _ _, h, World.grownBy.refl _ _⟩
  case round =>
    clear h
    obtain ⟨acc, q, Hp, Hn, ho, hR, hg⟩ := hrel
    have hmz : wr.cell? ⟨b, 0, none⟩ = some (.string (mkB q)) := hR.c0
    have hgs := hg.size
    have Hq : Hid (q.length ≤ maxLen) := by have h1 := Hn.out; have h2 := Hs.out; show _ ≤ _; unfold maxLen; omega
    have Hb : Hid (acc.length + 1 ≤ 140737488355328 ∨ q = []) := by
      show _ ∨ _
      cases q with
      | nil => exact .inr rfl
      | cons c r => left; have h1 := Hn.out; have h2 := Hs.out; simp only [List.length_cons] at h1; omega
    cases q with
    | nil =>
      go_wp2_with (go_at_call 34; refine (left_none _ _ _ hR).mono ?_; rintro e w1 ⟨rfl, rfl⟩)
      go_ret2
      refine ⟨_, _, rfl, ?_, hg⟩
      rw [← Hp.out]
      exact rfl
    | cons c r =>
      have Hb1 : Hid (acc.length + 1 ≤ 140737488355328) := Hb.out.resolve_right (by simp)
      have hon := own_ne ho hbl
      by_cases hc : c = 0
      · subst hc
        cases r with
        | nil =>
          go_wp2_with (first
            | (go_at_call 34; refine (left_some _ _ _ _ _ hR).mono ?_; rintro e w1 ⟨n1, rfl, hn1, rfl⟩)
            | (go_at_call 18; refine (rnum1_cons _ _ _ _ hR Hq.out).mono ?_; rintro e w2 ⟨rfl, hR2, hg2⟩)
            | (go_at_call 50; refine (readMark_nil _ _ hR2).mono ?_; rintro e w3 ⟨rfl, hg3⟩; have ho3 := (ho.kept hg2 hon).kept hg3 hon; have hcv := run_convert_own w3 44 9 5 Try.underlying44 Try.underlying5 Try.underlying9 ho3; clear ho3))
          go_ret2
          refine ⟨_, _, rfl, ?_, grown_trans (grown_trans hg hg2 (.inl rfl)) hg3 (.inl rfl)⟩
          rw [← Hp.out]
          exact rfl
        | cons m r =>
          have Hq2 : Hid ((m :: r).length ≤ maxLen) := by have h1 := Hq.out; show _ ≤ _; simp only [List.length_cons] at *; omega
          by_cases h1 : m = 1
          · subst h1
            go_wp2_with (first
            | (go_at_call 34; refine (left_some _ _ _ _ _ hR).mono ?_; rintro e w1 ⟨n1, rfl, hn1, rfl⟩)
            | (go_at_call 18; refine (rnum1_cons _ _ _ _ hR Hq.out).mono ?_; rintro e w2 ⟨rfl, hR2, hg2⟩)
            | (go_at_call 50; refine (readMark_end _ _ _ hR2 Hq2.out).mono ?_; rintro e w3 ⟨rfl, hR3, hg3⟩; have ho3 := (ho.kept hg2 hon).kept hg3 hon; have hcv := run_convert_own w3 44 9 5 Try.underlying44 Try.underlying5 Try.underlying9 ho3; clear ho3))
            go_ret2
            refine ⟨_, _, rfl, ?_, grown_trans (grown_trans hg hg2 (.inl rfl)) hg3 (.inl rfl)⟩
            rw [← Hp.out, pText_end]
            exact ⟨by simp [mkB], rfl, hR3⟩
          · by_cases h2 : m = 255
            · subst h2
              go_wp2_with (first
            | (go_at_call 34; refine (left_some _ _ _ _ _ hR).mono ?_; rintro e w1 ⟨n1, rfl, hn1, rfl⟩)
            | (go_at_call 18; refine (rnum1_cons _ _ _ _ hR Hq.out).mono ?_; rintro e w2 ⟨rfl, hR2, hg2⟩)
            | (go_at_call 50; refine (readMark_go _ _ _ hR2 Hq2.out).mono ?_; rintro e w3 ⟨rfl, hR3, hg3⟩; have ho3 := (ho.kept hg2 hon).kept hg3 hon)
            | (at_builtin; refine wpList_append_bytes _ rfl (.tmp 29) (.tmp 31) 44 44 rfl w.heap.size 5 i0 Try.underlying44 hi hz0 hz1 hz2 u4 _ rfl (ho3.alloc _) _ [0] rfl (src_one w3 44 5 Try.underlying44 _ _ rfl) Hb1.out (by have h2 := hg2.size; have h3 := hg3.size; simp; omega) ?_; intro v4 w4 ho4 hg4 hv4))
              have hga := World.grownBy_alloc w3 (.cells #[.int .u8 0] 5) none
              have hrow : ∀ k, u4.ownBlock = some k → w.heap.size ≤ k := fun k hk => (ho.lt k hk).1
              have hR4 : Rd w4 b (mkB r) 0 := (hR3.kept hga (by simp)).kept hg4 (by intro h; have := hrow b h.symm; omega)
              have hgt : w.grownBy w4 (some b) := grown_new (grown_trans (grown_trans (grown_trans hg hg2 (.inl rfl)) hg3 (.inl rfl)) (grown_any hga) (.inl rfl)) hg4 hrow
              have hm4 := hR4.c0
              go_roundw
              case rel => exact ⟨acc ++ [0], r, by show _ = _; rw [← Hp.out, pText_go, pre_pre], by have := Hn.out; show _ ≤ _; simp only [List.length_append, List.length_cons, List.length_nil] at *; omega, ho4, hR4, hgt⟩
              case measure => simp only [hm4, hmz, mkB_size, List.length_cons]; omega
            · go_wp2_with (first
            | (go_at_call 34; refine (left_some _ _ _ _ _ hR).mono ?_; rintro e w1 ⟨n1, rfl, hn1, rfl⟩)
            | (go_at_call 18; refine (rnum1_cons _ _ _ _ hR Hq.out).mono ?_; rintro e w2 ⟨rfl, hR2, hg2⟩)
            | (go_at_call 50; refine (readMark_bad _ _ _ _ hR2 Hq2.out h1 h2).mono ?_; rintro e w3 ⟨rfl, hR3, hg3⟩; have ho3 := (ho.kept hg2 hon).kept hg3 hon; have hcv := run_convert_own w3 44 9 5 Try.underlying44 Try.underlying5 Try.underlying9 ho3; clear ho3))
              go_ret2
              refine ⟨_, _, rfl, ?_, grown_trans (grown_trans hg hg2 (.inl rfl)) hg3 (.inl rfl)⟩
              rw [← Hp.out, pText_bad m r h1 h2]
              exact rfl
      · have n0 : ((c.toNat : Int) % 256 == 0) = false := by
          rw [beq_eq_false_iff_ne]
          intro h
          have := c.toNat_lt
          exact hc (UInt8.toNat_inj.1 (by simp; omega))
        have Hm : Hid ((c.toNat : Int) % 256 = (c.toNat : Int)) := by have := c.toNat_lt; show _ = _; omega
        have Hc : Hid (c ≠ 0) := hc
        clear hc
        go_wp2_with (first
            | (go_at_call 34; refine (left_some _ _ _ _ _ hR).mono ?_; rintro e w1 ⟨n1, rfl, hn1, rfl⟩)
            | (go_at_call 18; refine (rnum1_cons _ _ _ _ hR Hq.out).mono ?_; rintro e w2 ⟨rfl, hR2, hg2⟩)
            | (at_builtin; refine wpList_append_bytes _ rfl (.tmp 29) (.tmp 31) 44 44 rfl w.heap.size 5 i0 Try.underlying44 hi hz0 hz1 hz2 u4 _ rfl ((ho.kept hg2 hon).alloc _) _ [c] rfl (src_one w2 44 5 Try.underlying44 _ _ Hm.out) Hb1.out (by have h2 := hg2.size; simp; omega) ?_; intro v4 w4 ho4 hg4 hv4))
        have hga := World.grownBy_alloc w2 (.cells #[.int .u8 ((c.toNat : Int) % 256)] 5) none
        have hrow : ∀ k, u4.ownBlock = some k → w.heap.size ≤ k := fun k hk => (ho.lt k hk).1
        have hR4 : Rd w4 b (mkB r) 0 := (hR2.kept hga (by simp)).kept hg4 (by intro h; have := hrow b h.symm; omega)
        have hgt : w.grownBy w4 (some b) := grown_new (grown_trans (grown_trans hg hg2 (.inl rfl)) (grown_any hga) (.inl rfl)) hg4 hrow
        have hm4 := hR4.c0
        go_roundw
        case rel => exact ⟨acc ++ [c], r, by show _ = _; rw [← Hp.out, pText_ne c r Hc.out, pre_pre], by have := Hn.out; show _ ≤ _; simp only [List.length_append, List.length_cons, List.length_nil] at *; omega, ho4, hR4, hgt⟩
        case measure => simp only [hm4, hmz, mkB_size, List.length_cons]; omega

theorem Vb.store3 {w : World} {g : Nat} {x : V} (h : Vb w g x) (y : V) :
    Vb (((w.setCell ⟨g, 0, none⟩ (.int .i64 y.k)).setCell ⟨g, 1, none⟩ (.int .i64 y.n)).setCell ⟨g, 2, none⟩ (.string y.s)) g y ∧ w.grownBy (((w.setCell ⟨g, 0, none⟩ (.int .i64 y.k)).setCell ⟨g, 1, none⟩ (.int .i64 y.n)).setCell ⟨g, 2, none⟩ (.string y.s)) (some g) := by
  have one : ∀ (w : World) (j : Nat) (v : Value), w.grownBy (w.setCell ⟨g, j, none⟩ v) (some g) := fun w j v => ⟨rfl, rfl, rfl, by simp, fun k _ hk => heap_setCell_other w _ k _ (fun hb => hk (by simp [hb]))⟩
  refine ⟨?_, grown_trans (grown_trans (one _ _ _) (one _ _ _) (.inl rfl)) (one _ _ _) (.inl rfl)⟩
  unfold Vb at h ⊢
  have h1 := heap_setCell_same w g 0 _ 38 (.int .i64 y.k) h
  have h2 := heap_setCell_same _ g 1 _ 38 (.int .i64 y.n) h1
  have h3 := heap_setCell_same _ g 2 _ 38 (.string y.s) h2
  rw [h3]
  rfl
theorem load_vb {w : World} {g : Nat} {x : V} (h : Vb w g x) : (loadVar 38 ⟨g, 0, none⟩).run Try.prog w = .ok x.val w := by
  have c0 := h.c0
  have c1 := h.c1
  have c2 := h.c2
  go_simp
  rfl
theorem results_vb {fn : Func} {p u : Tmp} (h : fn.results = #[.cell p 38, .tmp u]) (tmps : Array Value) (g : Nat) (W : World) (x : V) (er : Value) (hp : tmps.getD p undef = .pointer (some ⟨g, 0, none⟩)) (hu : tmps.getD u undef = er) (hV : Vb W g x) :
    (results fn tmps).run Try.prog W = .ok (.tuple #[x.val, er]) W := by
  rw [results_cell_tmp h, hp, hu]
  simp [asAddr, Result.andThen, load_vb hV]
theorem wid8' : wid 8 = 8 := by decide
theorem wrap_byte (c : UInt8) : wrap64 (c.toNat : Int) = (c.toNat : Int) := by
  have := c.toNat_lt
  unfold wrap64
  omega
def ToldV (w' : World) (b : Nat) (y : Except Int (V × List UInt8)) (x : V) (er : Int) : Prop :=
  match y with
  | .ok (x', q) => x = x' ∧ er = 0 ∧ Rd w' b (mkB q) 0
  | .error e => er = e

/-- Behind the store of the answer: it lies there, and nothing else has turned but the reader. -/
theorem told_end {w w0 w1 : World} {b g : Nat} {x y : V} (hg : w.grownBy w1 (some b)) (hV1 : Vb w1 g x) (hgw : w.heap.size ≤ g) :
    Vb (((w1.setCell ⟨g, 0, none⟩ (.int .i64 y.k)).setCell ⟨g, 1, none⟩ (.int .i64 y.n)).setCell ⟨g, 2, none⟩ (.string y.s)) g y ∧ w.grownBy (((w1.setCell ⟨g, 0, none⟩ (.int .i64 y.k)).setCell ⟨g, 1, none⟩ (.int .i64 y.n)).setCell ⟨g, 2, none⟩ (.string y.s)) (some b) :=
  ⟨(hV1.store3 y).1, grown_new hg (hV1.store3 y).2 (fun k hk => by cases hk; exact hgw)⟩

set_option maxRecDepth 100000 in
set_option maxHeartbeats 400000 in
theorem readValue_any (b : Nat) (c : UInt8) (r : List UInt8) (w : World) (h : Rd w b (mkB (c :: r)) 0) (hs : (c :: r).length ≤ 1099511627776) :
    Calls Try.prog 40 #[.pointer (some ⟨b, 0, none⟩)] w fun e w' => ∃ x er, e = .returned (.tuple #[V.val x, .int .i64 er]) ∧ ToldV w' b (pVal (c :: r)) x er ∧ w.grownBy w' (some b) := by
  have Hs : Hid ((c :: r).length ≤ maxLen) := by show _ ≤ _; unfold maxLen; omega
  have Hs2 : Hid (r.length ≤ 1099511627776) := by show _ ≤ _; simp only [List.length_cons] at hs; omega
  have Hs3 : Hid (r.length ≤ maxLen) := by have := Hs2.out; show _ ≤ _; unfold maxLen; omega
  have hbl := h.lt
  have hga := World.grownBy_alloc w (.cells #[.int .i64 0, .int .i64 0, .string ByteArray.empty] 38) none
  have h0 : Rd (w.alloc (.cells #[.int .i64 0, .int .i64 0, .string ByteArray.empty] 38)) b (mkB (c :: r)) 0 := h.kept hga (by simp)
  have hV : Vb (w.alloc (.cells #[.int .i64 0, .int .i64 0, .string ByteArray.empty] 38)) w.heap.size ⟨0, 0, ByteArray.empty⟩ := Vb.new w ⟨0, 0, ByteArray.empty⟩
  clear hs
  by_cases h1 : c = 1
  · subst h1
    by_cases h8 : r.length < 8
    · rw [pVal_short r h8]
      go_enter Try.func40, Try.ntmps40
      go_wp2_with fail
      refine (rnum1_cons b _ _ _ h0 Hs.out).mono ?_
      rintro e w1 ⟨rfl, hR1, hg1⟩
      have hV1 := hV.kept hg1 (by simp; omega)
      have hG1 := grown_trans (grown_any (row := some b) hga) hg1 (.inl rfl)
      clear hV hga hg1
      go_wp2_with fail
      refine (rnum_short b 8 r _ hR1 (by rw [wid8']; exact h8)).mono ?_
      rintro e w2 ⟨rfl, hR2, hg2⟩
      have hV2 := hV1.kept hg2 (by simp; omega)
      have hG2 := grown_trans hG1 hg2 (.inl rfl)
      have d0 := hV2.c0; have d1 := hV2.c1; have d2 := hV2.c2; have f0 := hV2.fz 0; have f1 := hV2.fz 1; have f2 := hV2.fz 2
      dsimp only at d0 d1 d2
      have hst := told_end (y := ⟨1, wrap64 (IntKind.u64.wrap (-9223372036854775808)), ⟨#[]⟩⟩) (w0 := w) hG2 hV2 (Nat.le_refl _)
      clear hV1 hV2 hG1
      generalize w.heap.size = g at *
      go_wp2_with (go_at_call 33; refine (err_any _ _ _ _ hR2).mono ?_; rintro e w3 ⟨rfl, rfl⟩)
      refine bodyPost_ret (results_vb rfl _ g _ ⟨1, wrap64 (IntKind.u64.wrap (-9223372036854775808)), ⟨#[]⟩⟩ _ rfl rfl hst.1) rfl ?_
      exact ⟨_, _, rfl, rfl, hst.2⟩
    · rw [pVal_int r h8]
      have Hv : Hid ((val (r.take 8) : Int) < 18446744073709551616) := val_lt8 _ (by simp; omega)
      obtain ⟨m, HM⟩ : ∃ m : Int, Hid (m = wrap64 (IntKind.u64.wrap ((val (r.take 8) : Int) - 9223372036854775808))) := ⟨_, rfl⟩
      have HM2 : Hid (m = (val (r.take 8) : Int) - 9223372036854775808) := by
        have h1 := Hv.out
        show _ = _
        rw [HM.out, IntKind.wrap_u64]
        unfold wrap64
        omega
      go_enter Try.func40, Try.ntmps40
      go_wp2_with fail
      refine (rnum1_cons b _ _ _ h0 Hs.out).mono ?_
      rintro e w1 ⟨rfl, hR1, hg1⟩
      have hV1 := hV.kept hg1 (by simp; omega)
      have hG1 := grown_trans (grown_any (row := some b) hga) hg1 (.inl rfl)
      clear hV hga hg1
      go_wp2_with fail
      refine (rnum_ok b 8 r _ hR1 (by rw [wid8']; omega) Hs3.out).mono ?_
      rintro e w2 ⟨rfl, hR2, hg2⟩
      rw [wid8'] at hR2 ⊢
      have hV2 := hV1.kept hg2 (by simp; omega)
      have hG2 := grown_trans hG1 hg2 (.inl rfl)
      have d0 := hV2.c0; have d1 := hV2.c1; have d2 := hV2.c2; have f0 := hV2.fz 0; have f1 := hV2.fz 1; have f2 := hV2.fz 2
      dsimp only at d0 d1 d2
      have hst := told_end (y := ⟨1, m, ⟨#[]⟩⟩) (w0 := w) hG2 hV2 (Nat.le_refl _)
      have hRe : Rd (((w2.setCell ⟨w.heap.size, 0, none⟩ (.int .i64 1)).setCell ⟨w.heap.size, 1, none⟩ (.int .i64 m)).setCell ⟨w.heap.size, 2, none⟩ (.string ⟨#[]⟩)) b (mkB (r.drop 8)) 0 := hR2.kept (hV2.store3 ⟨1, m, ⟨#[]⟩⟩).2 (by simp; omega)
      clear hV1 hV2 hG1
      generalize w.heap.size = g at *
      generalize hzz : val (r.take 8) = z at *
      have Hz : Hid (val (r.take 8) = z) := hzz
      clear hzz
      go_wp2_with (go_at_call 33; refine (err_any _ _ _ _ hR2).mono ?_; rintro e w3 ⟨rfl, rfl⟩)
      rw [← HM.out]
      refine bodyPost_ret (results_vb rfl _ g _ ⟨1, m, ⟨#[]⟩⟩ _ rfl rfl hst.1) rfl ?_
      exact ⟨⟨1, m, ⟨#[]⟩⟩, _, rfl, ⟨congrArg (fun n => V.mk 1 n (mkB [])) (HM2.out.trans (by rw [Hz.out])), rfl, hRe⟩, hst.2⟩
  · by_cases h2 : c = 2
    · subst h2
      have E := pText_err r
      cases hp : pText r with
      | error er =>
        rw [pVal_texte r er hp]
        go_enter Try.func40, Try.ntmps40
        go_wp2_with fail
        refine (rnum1_cons b _ _ _ h0 Hs.out).mono ?_
        rintro e w1 ⟨rfl, hR1, hg1⟩
        have hV1 := hV.kept hg1 (by simp; omega)
        have hG1 := grown_trans (grown_any (row := some b) hga) hg1 (.inl rfl)
        clear hV hga hg1
        go_wp2_with fail
        refine (readText_any b r _ hR1 Hs2.out).mono ?_
        rintro e w2 ⟨t, er2, rfl, hT, hg2⟩
        rw [hp] at hT
        have hT' : er2 = er := hT
        subst hT'
        have hV2 := hV1.kept hg2 (by simp; omega)
        have hG2 := grown_trans hG1 hg2 (.inl rfl)
        have d0 := hV2.c0; have d1 := hV2.c1; have d2 := hV2.c2; have f0 := hV2.fz 0; have f1 := hV2.fz 1; have f2 := hV2.fz 2
        dsimp only at d0 d1 d2
        have hst := told_end (y := ⟨2, 0, t⟩) (w0 := w) hG2 hV2 (Nat.le_refl _)
        clear hV1 hV2 hG1
        generalize w.heap.size = g at *
        go_wp2_with fail
        refine bodyPost_ret (results_vb rfl _ g _ ⟨2, 0, t⟩ _ rfl rfl hst.1) rfl ?_
        exact ⟨_, _, rfl, rfl, hst.2⟩
      | ok tq =>
        obtain ⟨t0, q⟩ := tq
        rw [pVal_text r t0 q hp]
        go_enter Try.func40, Try.ntmps40
        go_wp2_with fail
        refine (rnum1_cons b _ _ _ h0 Hs.out).mono ?_
        rintro e w1 ⟨rfl, hR1, hg1⟩
        have hV1 := hV.kept hg1 (by simp; omega)
        have hG1 := grown_trans (grown_any (row := some b) hga) hg1 (.inl rfl)
        clear hV hga hg1
        go_wp2_with fail
        refine (readText_any b r _ hR1 Hs2.out).mono ?_
        rintro e w2 ⟨t, er2, rfl, hT, hg2⟩
        rw [hp] at hT
        obtain ⟨rfl, rfl, hR2⟩ : t = mkB t0 ∧ er2 = 0 ∧ Rd w2 b (mkB q) 0 := hT
        have hV2 := hV1.kept hg2 (by simp; omega)
        have hG2 := grown_trans hG1 hg2 (.inl rfl)
        have d0 := hV2.c0; have d1 := hV2.c1; have d2 := hV2.c2; have f0 := hV2.fz 0; have f1 := hV2.fz 1; have f2 := hV2.fz 2
        dsimp only at d0 d1 d2
        have hst := told_end (y := ⟨2, 0, mkB t0⟩) (w0 := w) hG2 hV2 (Nat.le_refl _)
        have hRe : Rd (((w2.setCell ⟨w.heap.size, 0, none⟩ (.int .i64 2)).setCell ⟨w.heap.size, 1, none⟩ (.int .i64 0)).setCell ⟨w.heap.size, 2, none⟩ (.string (mkB t0))) b (mkB q) 0 := hR2.kept (hV2.store3 ⟨2, 0, mkB t0⟩).2 (by simp; omega)
        clear hV1 hV2 hG1
        generalize w.heap.size = g at *
        go_wp2_with fail
        refine bodyPost_ret (results_vb rfl _ g _ ⟨2, 0, mkB t0⟩ _ rfl rfl hst.1) rfl ?_
        exact ⟨_, _, rfl, ⟨rfl, rfl, hRe⟩, hst.2⟩
    · have n1 : (wrap64 (c.toNat : Int) == 1) = false := by
        rw [wrap_byte, beq_eq_false_iff_ne]
        intro h
        exact h1 (UInt8.toNat_inj.1 (by simp; omega))
      have n2 : (wrap64 (c.toNat : Int) == 2) = false := by
        rw [wrap_byte, beq_eq_false_iff_ne]
        intro h
        exact h2 (UInt8.toNat_inj.1 (by simp; omega))
      rw [pVal_bad c r h1 h2]
      clear h1 h2
      go_enter Try.func40, Try.ntmps40
      go_wp2_with fail
      refine (rnum1_cons b _ _ _ h0 Hs.out).mono ?_
      rintro e w1 ⟨rfl, hR1, hg1⟩
      have hV1 := hV.kept hg1 (by simp; omega)
      have d0 := hV1.c0; have d1 := hV1.c1; have d2 := hV1.c2; have f0 := hV1.fz 0; have f1 := hV1.fz 1; have f2 := hV1.fz 2
      dsimp only at d0 d1 d2
      have hst := told_end (y := ⟨0, 0, ⟨#[]⟩⟩) (w0 := w) (grown_trans (grown_any hga) hg1 (.inl rfl)) hV1 (Nat.le_refl _)
      clear hV hV1 hga hg1
      generalize w.heap.size = g at *
      go_wp2_with fail
      refine bodyPost_ret (results_vb rfl _ g _ ⟨0, 0, ⟨#[]⟩⟩ _ rfl rfl hst.1) rfl ?_
      exact ⟨_, _, rfl, rfl, hst.2⟩

/-- What Read answers: the tuple, in memory that the call itself has made, or the error. -/
def ToldL (w' : World) (base : Nat) (y : Except Int (List V)) (v : Value) (er : Int) : Prop :=
  match y with
  | .ok l => er = 0 ∧ OwnV w' base v l
  | .error e => er = e ∧ v = .slice none 0 0

theorem Try.info38 : (Try.prog.info? 38).map (fun i => (i.zero, i.size, i.bytes)) = some (some (.agg #[.int .i64 0, .int .i64 0, .string ByteArray.empty]), 3, 32) := by kernel_rfl
theorem ownV_ne {w : World} {base b : Nat} {v : Value} {l : List V} (h : OwnV w base v l) (hne : v.ownBlock ≠ some b) : v.ownBlock = none ∨ v.ownBlock ≠ some b := .inr hne

set_option maxRecDepth 100000 in
set_option maxHeartbeats 400000 in
theorem read_any (s : ByteArray) (w : World) (hs : s.size ≤ 1099511627776) :
    Calls Try.prog 25 #[.string s] w fun e w' => ∃ v er, e = .returned (.tuple #[v, .int .i64 er]) ∧ ToldL w' w.heap.size (pRead s.data.toList) v er ∧ w.grownBy w' none := by
  obtain ⟨i0, hi, hz0, hz1, hz2⟩ := info_parts Try.info38
  have Hs : Hid (s.data.toList.length ≤ 1099511627776) := by show _ ≤ _; rw [Array.length_toList]; exact hs
  clear hs
  have hR0 : Rd (w.alloc (.cells #[.string s, .int .i64 0] 65)) w.heap.size (mkB s.data.toList) 0 := by rw [mkB_self]; exact Rd.new _ _ _
  have hga := World.grownBy_alloc w (.cells #[.string s, .int .i64 0] 65) none
  go_enter Try.func25, Try.ntmps25
  go_wp2_with (go_at_call 17; refine (from_any _ _).mono ?_; rintro e w1 ⟨rfl, rfl⟩)
  go_loopw [4] (fun v wr => ∃ (acc : List V) (q : List UInt8), Hid (preL acc (pRead q) = pRead s.data.toList) ∧ Hid (acc.length + q.length ≤ s.data.toList.length) ∧ OwnV wr w.heap.size v acc ∧ v.ownBlock ≠ some w.heap.size ∧ Rd wr w.heap.size (mkB q) 0 ∧ w.grownBy wr none) (fun _ wr => (match wr.cell? ⟨w.heap.size, 0, none⟩ with | some (.string s) => s.size | _ => 0))
  case atStart => exact ⟨[], s.data.toList, preL_nil _, by show _ ≤ _; simp, OwnV.nil _ _, by simp [Value.ownBlock], hR0, hga⟩
  case round =>
    clear hR0 hga
    obtain ⟨acc, q, Hp, Hn, ho, hne, hR, hg⟩ := hrel
    have hmz : wr.cell? ⟨w.heap.size, 0, none⟩ = some (.string (mkB q)) := hR.c0
    have hgs := hg.size
    have hRl := hR.lt
    have Hb : Hid ((acc.length + 1) * 32 ≤ 140737488355328 ∧ acc.length + 1 ≤ maxLen) := by
      have h1 := Hn.out; have h2 := Hs.out
      show _ ∧ _
      unfold maxLen
      omega
    cases q with
    | nil =>
      go_wp2_with (go_at_call 34; refine (left_none _ _ _ hR).mono ?_; rintro e w1 ⟨rfl, rfl⟩)
      go_ret2
      refine ⟨_, _, rfl, ?_, hg⟩
      rw [← Hp.out, pRead_nil]
      exact ⟨rfl, by simpa using ho⟩
    | cons c r =>
      have Hq : Hid ((c :: r).length ≤ 1099511627776) := by have h1 := Hn.out; have h2 := Hs.out; show _ ≤ _; omega
      go_wp2_with (first
        | (go_at_call 34; refine (left_some _ _ _ _ _ hR).mono ?_; rintro e w1 ⟨n1, rfl, hn1, rfl⟩)
        | fail)
      refine (readValue_any _ c r _ hR Hq.out).mono ?_
      rintro e w2 ⟨x, er, rfl, hT, hg2⟩
      have ho2 := ho.kept hg2 (.inr hne)
      have hg2s := hg2.size
      cases hp : pVal (c :: r) with
      | error e0 =>
        rw [hp] at hT
        have hT' : er = e0 := hT
        subst hT'
        have hne0 : (er != 0) = true := by rcases pVal_err _ _ hp with rfl | rfl <;> rfl
        have He : Hid (pRead s.data.toList = .error er) := by show _ = _; rw [← Hp.out, pRead_err _ _ (by simp) hp]; rfl
        have hgg : w.grownBy (w2.alloc (.cells #[.int .i64 x.k, .int .i64 x.n, .string x.s] 38)) none := grown_up (grown_new hg hg2 (fun k hk => by cases hk; exact Nat.le_refl _)) (World.grownBy_alloc _ _ _)
        obtain ⟨xk, xn, xs⟩ := x
        unfold V.val
        dsimp only at hgg ⊢
        go_wp2
        go_ret2
        refine ⟨_, _, rfl, ?_, hgg⟩
        rw [He.out]
        exact ⟨rfl, rfl⟩
      | ok xq =>
        obtain ⟨x0, q⟩ := xq
        rw [hp] at hT
        obtain ⟨rfl, rfl, hR2⟩ : x = x0 ∧ er = 0 ∧ Rd w2 w.heap.size (mkB q) 0 := hT
        have He : Hid (preL (acc ++ [x]) (pRead q) = pRead s.data.toList) := by show _ = _; rw [← Hp.out, pRead_ok _ _ _ hp, preL_preL]
        have Hl : Hid (q.length < (c :: r).length) := pVal_lt hp
        clear hp
        have hV : Vb (w2.alloc (.cells #[.int .i64 x.k, .int .i64 x.n, .string x.s] 38)) w2.heap.size x := Vb.new w2 x
        have ho3 := ho2.alloc (.cells #[.int .i64 x.k, .int .i64 x.n, .string x.s] 38)
        have hR3 : Rd (w2.alloc (.cells #[.int .i64 x.k, .int .i64 x.n, .string x.s] 38)) w.heap.size (mkB q) 0 := hR2.kept (World.grownBy_alloc _ _ none) (by simp)
        have hgg : w.grownBy (w2.alloc (.cells #[.int .i64 x.k, .int .i64 x.n, .string x.s] 38)) none := grown_up (grown_new hg hg2 (fun k hk => by cases hk; exact Nat.le_refl _)) (World.grownBy_alloc _ _ _)
        have c0 := hV.c0; have c1 := hV.c1; have c2 := hV.c2
        obtain ⟨xk, xn, xs⟩ := x
        unfold V.val
        dsimp only at c0 c1 c2 hgg ho3 hR3 ⊢
        clear hV
        go_wp2_with (first
          | (at_builtin; refine wpList_append_row _ rfl (.tmp 21) (.tmp 23) 39 39 rfl w.heap.size 38 i0 _ 3 32 Try.underlying39 hi hz0 rfl hz1 hz2 u4 _ _ rfl (ho3.alloc _) _ 1 (vcs [⟨xk, xn, xs⟩]) rfl (src_val _ 39 38 Try.underlying39 ⟨xk, xn, xs⟩ _ (by simp)) (by omega) Hb.out.1 Hb.out.2 (by have := hgg.size; simp at this; simp; omega) ?_; intro v4 w4 ho4 hg4 hv4))
        have hga2 := World.grownBy_alloc (w2.alloc (.cells #[.int .i64 xk, .int .i64 xn, .string xs] 38)) (.cells #[.int .i64 xk, .int .i64 xn, .string xs] 38) none
        have hR4 : Rd w4 w.heap.size (mkB q) 0 := (hR3.kept hga2 (by simp)).kept hg4 (Ne.symm hne)
        have hgt : w.grownBy w4 none := grown_new (grown_up hgg hga2) hg4 (fun k hk => (ho.lt k hk).1)
        have hne4 : v4.ownBlock ≠ some w.heap.size := by
          rcases hv4 with h | h
          · rw [h]; exact hne
          · rw [h]; intro hh; have := Option.some.inj hh; simp at this; omega
        have ho5 : OwnV w4 w.heap.size v4 (acc ++ [⟨xk, xn, xs⟩]) := by
          unfold OwnV
          rw [vcs_append, List.length_append]
          exact ho4
        have hm4 := hR4.c0
        go_roundw
        case rel => exact ⟨acc ++ [⟨xk, xn, xs⟩], q, He, by have h1 := Hn.out; have h2 := Hl.out; show _ ≤ _; simp only [List.length_append, List.length_cons, List.length_nil] at *; omega, ho5, hne4, hR4, hgt⟩
        case measure => have h2 := Hl.out; simp only [hm4, hmz, mkB_size]; exact h2

def resL : Except Int (List V) → List V
  | .ok l => l
  | .error _ => []
def resE : Except Int (List V) → Int
  | .ok _ => 0
  | .error e => e
theorem told_tup {w' : World} {base : Nat} {y : Except Int (List V)} {v : Value} {er : Int} (h : ToldL w' base y v er) : Tup w' v (resL y) ∧ er = resE y := by
  cases y with
  | ok l => exact ⟨h.2.tup, h.1⟩
  | error e => obtain ⟨rfl, rfl⟩ := h; exact ⟨Tup.nil _, rfl⟩

end Go.Proofs.Ytiledkdoabdnnab
