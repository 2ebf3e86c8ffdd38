/- Which schema bytes are, and contracts, over the turned program: rows.Unschema answers so. Conditions: those that each theorem states. -/
import Derived.Test.YtiledkdoabdnnabRSchema
import Derived.Test.YtiledkdoabdnnabRLives
import Derived.Deep.RegionLaw
namespace Go.Proofs.Ytiledkdoabdnnab
open Go.RowKit
set_option linter.unusedVariables false

def kcs (ks : List Int) : List Value := ks.map (.int .i64)
theorem kcs_one (ks : List Int) : ∀ z ∈ kcs ks, z.oneCell' = true := by
  intro z hz
  obtain ⟨k, _, rfl⟩ := List.mem_map.1 hz
  rfl
/-- Kinds that a call itself has made. -/
def OwnK (w : World) (base : Nat) (v : Value) (ks : List Int) : Prop := w.ownsRow base 36 1 v ks.length (kcs ks)
theorem OwnK.nil (w : World) (base : Nat) : OwnK w base (.slice none 0 0) [] := World.ownsRow_nil w base 36 1
theorem OwnK.lt {w : World} {base : Nat} {v : Value} {l : List Int} (h : OwnK w base v l) : ∀ k, v.ownBlock = some k → base ≤ k ∧ k < w.heap.size := World.ownsRow.lt h
theorem OwnK.kept {w w' : World} {base : Nat} {v : Value} {l : List Int} {row : Option Nat} (h : OwnK w base v l) (hg : w.grownBy w' row) (hne : v.ownBlock = none ∨ v.ownBlock ≠ row) : OwnK w' base v l :=
  World.ownsRow.kept h hg hne
theorem OwnK.alloc {w : World} {base : Nat} {v : Value} {l : List Int} (h : OwnK w base v l) (o : Obj) : OwnK (w.alloc o) base v l := World.ownsRow.alloc h o
theorem OwnK.kd {w : World} {base : Nat} {v : Value} {l : List Int} (h : OwnK w base v l) : Kd w v l := by
  have h' := h
  rcases h.2 with ⟨rfl, h0⟩ | ⟨g, cap, cur, rfl, hb, hg, hnc, hcm, hcs, htake⟩
  · have : l = [] := List.eq_nil_of_length_eq_zero h0
    subst this
    exact Kd.nil w
  · refine ⟨some ⟨g, 0, none⟩, cap, rfl, hnc, hcm, fun i hi => ⟨g, 0, rfl, (Array.getElem?_eq_some_iff.1 hg).1, ?_⟩⟩
    have hc := World.ownsRow.cells h' (g := g) rfl
    have plain : ∀ q, (⟨g, 0, none⟩ : Addr).add q = ⟨g, 0 + q, none⟩ := by intro q; unfold Addr.add; split <;> simp_all
    have g0 := hc i (.int .i64 l[i]) (by unfold kcs; rw [List.getElem?_map, List.getElem?_eq_getElem hi]; rfl)
    rw [plain] at g0
    exact g0
theorem OwnK.shape1 {w : World} {base : Nat} {v : Value} {l : List Int} (h : OwnK w base v l) : ∃ a c, v = .slice a l.length c := by
  obtain ⟨a, c, h1, _⟩ := h.kd
  exact ⟨a, c, h1⟩
theorem src_kind {P : Program} (w : World) (t e : TypeId) (ht : P.underlying t = some (.slice e)) (k : Int) (g : Nat) (hg : w.heap.size = g) :
    Src P 1 t (.slice (some ⟨g, 0, none⟩) 1 1) 1 (kcs [k]) (w.alloc (.cells #[.int .i64 k] e)) := by
  subst hg
  refine Src.ofSlice (e' := e) _ ht ⟨w.heap.size, 0, none⟩ 1 1 (kcs [k]) (by simp [kcs]) ?_ (kcs_one [k])
  intro j z hj
  match j, hj with
  | 0, hj => simp [kcs] at hj; subst hj; simp [Addr.add]
  | (j + 1), hj => simp [kcs] at hj
theorem step_append_row {P : Program} {w : World} {ops : Array Oper} {o : Oper} {a : Act} {K : Act → World → Prop} {Q : Exit → Act → World → Prop} {E : Prop} (hgd : o.guard = none) (s x : Operand) (t tx : TypeId)
    (ho : o.op = .call { callee := .builtin .append, args := #[s, x], argTypes := #[t, tx] }) (base : Nat) (e : TypeId) (i : TypeInfo) (z : Value) (sz by_ : Nat) (ht : P.underlying t = some (.slice e)) (hi : P.info? e = some i) (hz : i.zero = some z) (hzc : z.cells.size = sz)
    (hsize : i.size = sz) (hby : i.bytes = by_) (v : Value) (n : Nat) (cs : List Value) (hs : a.eval s = v) (hown : w.ownsRow base e sz v n cs) (xv : Value) (m : Nat) (ds : List Value) (hx : a.eval x = xv) (hsrc : Src P sz tx xv m ds w) (hm : 0 < n + m)
    (hb : (n + m) * by_ ≤ 140737488355328) (hml : n + m ≤ maxLen) (hbase : base ≤ w.heap.size)
    (h : ∀ v' w', w'.ownsRow base e sz v' (n + m) (cs ++ ds) → w.grownBy w' v.ownBlock → (v'.ownBlock = v.ownBlock ∨ v'.ownBlock = some w.heap.size) → K (a.put o.dst v') w') :
    if Region.wanted o (yielded ops a.tmps) = true then Oper.wp P o a w K Q else E := by
  have hw : Region.wanted o (yielded ops a.tmps) = true := by simp [Region.wanted, hgd]
  rw [if_pos hw]
  exact wp_append_row w s x t tx ho base e i z sz by_ ht hi hz hzc hsize hby v n cs hs hown xv m ds hx hsrc hm hb hml hbase h

/-- The next byte that a reader stands ahead of, what is left, and the error. -/
def n1 (s : ByteArray) (e : Int) : Nat := val (rawR s e (wid 1)).data.toList
def n1S (s : ByteArray) (e : Int) : ByteArray := rawS s e (wid 1)
def n1E (s : ByteArray) (e : Int) : Int := rawE s e (wid 1)
theorem n1_lt (s : ByteArray) (e : Int) : n1 s e < 256 := by
  unfold n1
  have h := rawR_size s e (wid 1)
  rw [wid1] at *
  have hl : (rawR s e ((1 : Nat) : Int)).data.toList.length ≤ 1 := by
    rw [Array.length_toList]
    show (rawR s e ((1 : Nat) : Int)).size ≤ 1
    omega
  have hv := val_lt (rawR s e ((1 : Nat) : Int)).data.toList
  match hn : (rawR s e ((1 : Nat) : Int)).data.toList.length, hl with
  | 0, _ => rw [hn] at hv; omega
  | 1, _ => rw [hn] at hv; omega
theorem n1S_size (s : ByteArray) (e : Int) : (n1S s e).size ≤ s.size := by
  unfold n1S rawS
  split
  · exact Nat.le_refl _
  · exact ext_size_le _ _ _
def kL : Nat → ByteArray → Int → List Int
  | 0, _, _ => []
  | n + 1, s, e => (n1 s e : Int) :: kL n (n1S s e) (n1E s e)
def kS : Nat → ByteArray → Int → ByteArray
  | 0, s, _ => s
  | n + 1, s, e => kS n (n1S s e) (n1E s e)
def kE : Nat → ByteArray → Int → Int
  | 0, _, e => e
  | n + 1, s, e => kE n (n1S s e) (n1E s e)
theorem kS_size (n : Nat) : ∀ s e, (kS n s e).size ≤ s.size := by
  induction n with
  | zero => intro s e; exact Nat.le_refl _
  | succ n ih => intro s e; exact Nat.le_trans (ih _ _) (n1S_size s e)
/-- The schema that bytes are. -/
structure Un where
  ks : List Int
  u : Nat
  x : Nat
  d : Int
def unRaw (t : ByteArray) : Un :=
  let n := n1 t 0
  let s1 := n1S t 0
  let e1 := n1E t 0
  let s2 := kS n s1 e1
  let e2 := kE n s1 e1
  let s3 := n1S s2 e2
  let e3 := n1E s2 e2
  ⟨kL n s1 e1, n1 s2 e2, n1 s3 e3, doneE (n1S s3 e3) (n1E s3 e3)⟩
def unOk (t : ByteArray) : Bool := decide ((unRaw t).d = 0) && rightS (unRaw t).ks (unRaw t).u (unRaw t).x
/-- What Unschema answers. -/
def ToldS (w' : World) (t : ByteArray) (kv : Value) (u x er : Int) : Prop :=
  if unOk t then er = 0 ∧ u = (unRaw t).u ∧ x = (unRaw t).x ∧ Kd w' kv (unRaw t).ks else er = 10 ∧ u = 0 ∧ x = 0 ∧ kv = .slice none 0 0

theorem Try.info36 : (Try.prog.info? 36).map (fun i => (i.zero, i.size, i.bytes)) = some (some (.int .i64 0), 1, 8) := by kernel_rfl
theorem Sb.fz {w : World} {b : Nat} {kv : Value} {u x : Int} (h : Sb w b kv u x) (j : Nat) : w.frozen? ⟨b, j, none⟩ = false := by
  unfold World.frozen?
  rw [show w.heap[(⟨b, j, none⟩ : Addr).block]? = _ from h]
  simp
theorem set_grown (w : World) (g j : Nat) (v : Value) : w.grownBy (w.setCell ⟨g, j, none⟩ v) (some g) := ⟨rfl, rfl, rfl, by simp, fun k _ hk => heap_setCell_other w _ k _ (fun hb => hk (by simp [hb]))⟩
theorem Sb.set0 {w : World} {g : Nat} {kv : Value} {u x : Int} (h : Sb w g kv u x) (z : Value) : Sb (w.setCell ⟨g, 0, none⟩ z) g z u x := by
  unfold Sb at h ⊢
  rw [heap_setCell_same w g 0 _ 24 z h]
  rfl
theorem Sb.set1 {w : World} {g : Nat} {kv : Value} {u x : Int} (h : Sb w g kv u x) (z : Int) : Sb (w.setCell ⟨g, 1, none⟩ (.int .i64 z)) g kv z x := by
  unfold Sb at h ⊢
  rw [heap_setCell_same w g 1 _ 24 _ h]
  rfl
theorem Sb.set2 {w : World} {g : Nat} {kv : Value} {u x : Int} (h : Sb w g kv u x) (z : Int) : Sb (w.setCell ⟨g, 2, none⟩ (.int .i64 z)) g kv u z := by
  unfold Sb at h ⊢
  rw [heap_setCell_same w g 2 _ 24 _ h]
  rfl
theorem results_sb {fn : Func} {p q : Tmp} (h : fn.results = #[.cell p 24, .tmp q]) (tmps : Array Value) (g : Nat) (W : World) (kv : Value) (u x : Int) (er : Value) (hp : tmps.getD p undef = .pointer (some ⟨g, 0, none⟩)) (hq : tmps.getD q undef = er) (hV : Sb W g kv u x) (a : Option Addr) (n c : Nat) (hk : kv = .slice a n c) :
    (results fn tmps).run Try.prog W = .ok (.tuple #[sval kv u x, er]) W := by
  rw [results_cell_tmp h, hp, hq]
  simp [asAddr, Result.andThen, load_sb hV a n c hk]
theorem rn1_any (b : Nat) (s : ByteArray) (e : Int) (w : World) (h : Rd w b s e) (hs : s.size ≤ maxLen) :
    Calls Try.prog 18 #[.pointer (some ⟨b, 0, none⟩), .int .i64 1] w fun y w' => y = .returned (.int .u64 (n1 s e : Int)) ∧ Rd w' b (n1S s e) (n1E s e) ∧ w.grownBy w' (some b) := rnum_any b s e 1 w h hs

end Go.Proofs.Ytiledkdoabdnnab
