/- Contracts, over the turned program: the variables that package text reads, an Op's name, numbers as words. Conditions: those that each theorem states. -/
import Derived.Test.YthopmlgfklhagaaGreatDoorJLine
import Derived.Test.YthopmlgfklhagaaGreatDoorIWr
import Derived.Test.YthopmlgfklhagaaGreatDoorIApp
import Derived.Test.YthopmlgfklhagaaGreatDoorJShelf
import Derived.BigQuiet
namespace Go.Proofs.YthopmlgfklhagaaGreatDoor
open Go.RowKit
set_option linter.unusedVariables false

/-- The table of the powers of ten reads as the program's text lays it. -/
def Tab10 (w : World) : Prop := Lib.TabIs Tryz.prog w "internal/strconv.uint64pow10" .u64 Lib.pow10Tab
theorem Tab10.keptN {w w' : World} (h : Tab10 w) (hg : w.grownBy w' none) : Tab10 w' := by
  unfold Tab10 Lib.TabIs World.var? at *
  cases hn : Tryz.prog.globalNamed "internal/strconv.uint64pow10" with
  | none => simp [hn] at h
  | some g =>
    simp only [hn, Option.bind_some] at h ⊢
    have hlt : g < w.heap.size := by
      rcases Nat.lt_or_ge g w.heap.size with h' | h'
      · exact h'
      · rw [Array.getElem?_eq_none h'] at h; simp at h
    rw [hg.block g hlt (by simp)]
    exact h
theorem grown_grow (w : World) (k : Nat) (os : Array Obj) : w.grownBy (Go.Sort.grow (w.drewN k) os) none := by
  refine ⟨rfl, rfl, rfl, ?_, fun i hi _ => ?_⟩
  · show w.heap.size ≤ (w.heap ++ os).size
    simp
  · show (w.heap ++ os)[i]? = w.heap[i]?
    rw [Array.getElem?_append_left hi]
theorem ritoa_any (n : Int) (w : World) (h0 : -9223372036854775808 ≤ n) (h1 : n < 9223372036854775808) (hT : Tab10 w) :
    Calls Tryz.prog 39 #[.int .i64 n] w fun e w' => e = .returned (.string (mkB (Lib.itoa n))) ∧ w.grownBy w' none :=
  (strconv_Itoa n h0 (by omega) w hT).mono fun e w' ⟨h, k, os, hw⟩ => ⟨h, by rw [hw]; exact grown_grow w k os⟩
theorem rfmt_any (n : Int) (w : World) (h0 : -9223372036854775808 ≤ n) (h1 : n < 9223372036854775808) (hT : Tab10 w) :
    Calls Tryz.prog 60 #[.int .i64 n, .int .i64 10] w fun e w' => e = .returned (.string (mkB (Lib.itoa n))) ∧ w.grownBy w' none :=
  (strconv_FormatInt_10 n h0 (by omega) w hT).mono fun e w' ⟨h, k, os, hw⟩ => ⟨h, by rw [hw]; exact grown_grow w k os⟩

theorem hexL_snoc (l : List UInt8) (c : UInt8) : hexL (l ++ [c]) = hexL l ++ hexB c := by simp [hexL]
theorem hexL_len (l : List UInt8) : (hexL l).length = 2 * l.length := by
  induction l with
  | nil => rfl
  | cons c l ih => show (hexB c ++ hexL l).length = _; rw [List.length_append, ih]; simp [hexB]; omega

/-- What package text's variables hold: the Ops' names and operands, the powers of ten; the errors are some errors. -/
def nmT : List (List UInt8) := [] :: nmL
def AnErr (w : World) (g : Nat) : Prop := ∃ ev, w.cell? ⟨g, 0, none⟩ = some ev ∧ (ev = .nilIface ∨ ∃ te pe, ev = .iface te pe)
def nmV : Array Value := (nmT.map (fun l => Value.string (mkB l))).toArray
structure G14 (w : World) : Prop where
  op : Glob w
  row : ∃ t fr, w.heap[0]? = some (.cells nmV t fr)
  lt : 0 < w.heap.size
  nm : ∀ i, i < 20 → w.cell? ⟨0, i, none⟩ = some (.string (mkB (nmT.getD i [])))
  t10 : Tab10 w
  es : AnErr w 5
  er : AnErr w 6
theorem AnErr.keptN {w w' : World} {g : Nat} (h : AnErr w g) (hg : w.grownBy w' none) : AnErr w' g := by
  obtain ⟨ev, h1, h2⟩ := h
  exact ⟨ev, (cell_same (hg.block g (lt_of_cell h1) (by simp)) 0).trans h1, h2⟩
theorem G14.keptN {w w' : World} (h : G14 w) (hg : w.grownBy w' none) : G14 w' :=
  ⟨h.op.keptN hg, by obtain ⟨t, fr, hr⟩ := h.row; exact ⟨t, fr, (hg.block _ h.lt (by simp)).trans hr⟩, Nat.lt_of_lt_of_le h.lt hg.size, fun i hi => (cell_same (hg.block _ h.lt (by simp)) i).trans (h.nm i hi), h.t10.keptN hg, h.es.keptN hg, h.er.keptN hg⟩

theorem nameB_at (op : Int) (m : Nat) (hm : op = m) (h : m < 20) : nameB op = nmT.getD m [] := by
  subst hm
  have key : ∀ m : Nat, m < 20 → nameB (m : Int) = nmT.getD m [] := by decide
  exact key m h
set_option maxRecDepth 100000 in
theorem tname_any (op : Int) (w : World) (h0 : -9223372036854775808 ≤ op) (h1 : op < 9223372036854775808) (hG : G14 w) :
    Calls Tryz.prog 9 #[.int .i64 op] w fun e w' => e = .returned (.string (mkB (nameB op))) ∧ w' = w := by
  obtain ⟨R, HR⟩ : ∃ R, Hid (nameB op = R) := ⟨_, rfl⟩
  rw [HR.out]
  by_cases hlo : op < 0
  · have Hv : Hid (R = []) := by
      show _ = _
      rw [← HR.out]; unfold nameB; rw [if_neg]; intro h; have := of_decide_eq_true h; omega
    go_enter Tryz.func9, Tryz.ntmps9
    go_wp2
    go_ret
    rw [Hv.out]
    exact ⟨rfl, rfl⟩
  · by_cases hhi : op < 20
    · obtain ⟨m, rfl⟩ := Int.eq_ofNat_of_zero_le (by omega : 0 ≤ op)
      have hm : m < 20 := by omega
      have hc := hG.nm m hm
      rw [← nameB_at (m : Int) m rfl hm, HR.out] at hc
      clear hlo hhi h0 h1 hG
      go_enter Tryz.func9, Tryz.ntmps9
      go_wp2
      go_ret
      exact ⟨rfl, rfl⟩
    · have Hv : Hid (R = []) := by
        show _ = _
        rw [← HR.out]; unfold nameB; rw [if_neg]; intro h; have := of_decide_eq_true h; omega
      go_enter Tryz.func9, Tryz.ntmps9
      go_wp2
      go_ret
      rw [Hv.out]
      exact ⟨rfl, rfl⟩

end Go.Proofs.YthopmlgfklhagaaGreatDoor
