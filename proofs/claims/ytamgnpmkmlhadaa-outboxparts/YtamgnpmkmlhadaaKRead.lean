/- Contracts, over the turned program: keys.Read answers the tuple that bytes are, or the first error, as the document says. Conditions: those that each theorem states. -/
import Derived.Test.YtamgnpmkmlhadaaKParse
import Derived.WalkLawsBesides
import Derived.Deep.CutRange
import Derived.Deep.RegionWith
import Derived.Deep.RegionHeldLaw
import Derived.Laws.ResultCell
namespace Go.Proofs.Ytamgnpmkmlhadaa
open Go.RowKit
set_option linter.unusedVariables false

theorem grown_any {w w' : World} {row : Option Nat} (h : w.grownBy w' none) : w.grownBy w' row := ⟨h.os, h.tape, h.output, h.size, fun k hk _ => h.block k hk (by simp)⟩
theorem grown_new {w w1 w2 : World} {row row' : Option Nat} (h : w.grownBy w1 row) (h' : w1.grownBy w2 row') (hr : ∀ k, row' = some k → w.heap.size ≤ k) : w.grownBy w2 row :=
  ⟨h'.os.trans h.os, h'.tape.trans h.tape, h'.output.trans h.output, Nat.le_trans h.size h'.size, fun k hk hne => by
    rw [h'.block k (Nat.lt_of_lt_of_le hk h.size) (by intro he; have := hr k he.symm; omega)]
    exact h.block k hk hne⟩
theorem grown_up {w w1 w2 : World} {row : Option Nat} (h : w.grownBy w1 row) (h' : w1.grownBy w2 none) : w.grownBy w2 row :=
  ⟨h'.os.trans h.os, h'.tape.trans h.tape, h'.output.trans h.output, Nat.le_trans h.size h'.size, fun k hk hne => by
    rw [h'.block k (Nat.lt_of_lt_of_le hk h.size) (by simp)]
    exact h.block k hk hne⟩

/-- What stands behind a 0: the end, a 0, or an error; and the bytes behind. -/
def mark : List UInt8 → Bool × Int
  | [] => (false, 2)
  | m :: _ => if m = 1 then (true, 0) else if m = 255 then (false, 0) else (false, 5)

theorem left_none (b : Nat) (e : Int) (w : World) (h : Rd w b (mkB []) e) :
    Calls Try.prog 50 #[.pointer (some ⟨b, 0, none⟩)] w fun x w' => x = .returned (.int .i64 0) ∧ w' = w := left_any b _ e w h
theorem left_some (b : Nat) (c : UInt8) (r : List UInt8) (e : Int) (w : World) (h : Rd w b (mkB (c :: r)) e) :
    Calls Try.prog 50 #[.pointer (some ⟨b, 0, none⟩)] w fun x w' => ∃ n : Int, x = .returned (.int .i64 n) ∧ 0 < n ∧ w' = w := by
  refine (left_any b _ e w h).mono ?_
  rintro x w' ⟨rfl, rfl⟩
  exact ⟨_, rfl, by rw [mkB_size]; simp, rfl⟩
theorem own_ne {e : TypeId} {w : World} {base b : Nat} {v : Value} {l : List UInt8} (h : Own e w base v l) (hb : b < base) : v.ownBlock = none ∨ v.ownBlock ≠ some b := by
  right
  intro hv
  have := (h.lt b hv).1
  omega

/-- What a reading call tells: the value and what is left, or the error. -/
def Told (w' : World) (b : Nat) (x : Except Int (List UInt8 × List UInt8)) (t : ByteArray) (er : Int) : Prop :=
  match x with
  | .ok (t', q) => t = mkB t' ∧ er = 0 ∧ Rd w' b (mkB q) 0
  | .error e => er = e

theorem Vb.store3 {w : World} {g : Nat} {x : V} (h : Vb w g x) (y : V) :
    Vb (((w.setCell ⟨g, 0, none⟩ (.int .i64 y.k)).setCell ⟨g, 1, none⟩ (.int .i64 y.n)).setCell ⟨g, 2, none⟩ (.string y.s)) g y ∧ w.grownBy (((w.setCell ⟨g, 0, none⟩ (.int .i64 y.k)).setCell ⟨g, 1, none⟩ (.int .i64 y.n)).setCell ⟨g, 2, none⟩ (.string y.s)) (some g) := by
  have one : ∀ (w : World) (j : Nat) (v : Value), w.grownBy (w.setCell ⟨g, j, none⟩ v) (some g) := fun w j v => ⟨rfl, rfl, rfl, by simp, fun k _ hk => heap_setCell_other w _ k _ (fun hb => hk (by simp [hb]))⟩
  refine ⟨?_, grown_trans (grown_trans (one _ _ _) (one _ _ _) (.inl rfl)) (one _ _ _) (.inl rfl)⟩
  unfold Vb at h ⊢
  have h1 := heap_setCell_same w g 0 _ 24 (.int .i64 y.k) h
  have h2 := heap_setCell_same _ g 1 _ 24 (.int .i64 y.n) h1
  have h3 := heap_setCell_same _ g 2 _ 24 (.string y.s) h2
  rw [h3]
  rfl
theorem load_vb {w : World} {g : Nat} {x : V} (h : Vb w g x) : (loadVar 24 ⟨g, 0, none⟩).run Try.prog w = .ok x.val w := by
  have c0 := h.c0
  have c1 := h.c1
  have c2 := h.c2
  go_simp
  rfl
theorem results_vb {fn : Func} {p u : Tmp} (h : fn.results = #[.cell p 24, .tmp u]) (tmps : Array Value) (g : Nat) (W : World) (x : V) (er : Value) (hp : tmps.getD p undef = .pointer (some ⟨g, 0, none⟩)) (hu : tmps.getD u undef = er) (hV : Vb W g x) :
    (results fn tmps).run Try.prog W = .ok (.tuple #[x.val, er]) W := by
  rw [results_cell_tmp h, hp, hu]
  simp [asAddr, Result.andThen, load_vb hV]
theorem wid8' : wid 8 = 8 := by decide
theorem wrap_byte (c : UInt8) : wrap64 (c.toNat : Int) = (c.toNat : Int) := by
  have := c.toNat_lt
  unfold wrap64
  omega
def ToldV (w' : World) (b : Nat) (y : Except Int (V × List UInt8)) (x : V) (er : Int) : Prop :=
  match y with
  | .ok (x', q) => x = x' ∧ er = 0 ∧ Rd w' b (mkB q) 0
  | .error e => er = e

/-- Behind the store of the answer: it lies there, and nothing else has turned but the reader. -/
theorem told_end {w w0 w1 : World} {b g : Nat} {x y : V} (hg : w.grownBy w1 (some b)) (hV1 : Vb w1 g x) (hgw : w.heap.size ≤ g) :
    Vb (((w1.setCell ⟨g, 0, none⟩ (.int .i64 y.k)).setCell ⟨g, 1, none⟩ (.int .i64 y.n)).setCell ⟨g, 2, none⟩ (.string y.s)) g y ∧ w.grownBy (((w1.setCell ⟨g, 0, none⟩ (.int .i64 y.k)).setCell ⟨g, 1, none⟩ (.int .i64 y.n)).setCell ⟨g, 2, none⟩ (.string y.s)) (some b) :=
  ⟨(hV1.store3 y).1, grown_new hg (hV1.store3 y).2 (fun k hk => by cases hk; exact hgw)⟩

/-- What Read answers: the tuple, in memory that the call itself has made, or the error. -/
def ToldL (w' : World) (base : Nat) (y : Except Int (List V)) (v : Value) (er : Int) : Prop :=
  match y with
  | .ok l => er = 0 ∧ OwnV w' base v l
  | .error e => er = e ∧ v = .slice none 0 0

theorem Try.info24 : (Try.prog.info? 24).map (fun i => (i.zero, i.size, i.bytes)) = some (some (.agg #[.int .i64 0, .int .i64 0, .string ByteArray.empty]), 3, 32) := by kernel_rfl
theorem ownV_ne {w : World} {base b : Nat} {v : Value} {l : List V} (h : OwnV w base v l) (hne : v.ownBlock ≠ some b) : v.ownBlock = none ∨ v.ownBlock ≠ some b := .inr hne

def resL : Except Int (List V) → List V
  | .ok l => l
  | .error _ => []
def resE : Except Int (List V) → Int
  | .ok _ => 0
  | .error e => e
theorem told_tup {w' : World} {base : Nat} {y : Except Int (List V)} {v : Value} {er : Int} (h : ToldL w' base y v er) : Tup w' v (resL y) ∧ er = resE y := by
  cases y with
  | ok l => exact ⟨h.2.tup, h.1⟩
  | error e => obtain ⟨rfl, rfl⟩ := h; exact ⟨Tup.nil _, rfl⟩

end Go.Proofs.Ytamgnpmkmlhadaa
