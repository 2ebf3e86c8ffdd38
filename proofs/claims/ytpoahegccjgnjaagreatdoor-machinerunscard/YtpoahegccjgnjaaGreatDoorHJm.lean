/- What a step of a program does, in plain words (no program): its state, what each instruction makes of it, and its effects. No conditions but those that each theorem states. What a step of a program keeps to, in plain words (no program): its state stays well, and it ends. No conditions but those that each theorem states. What the laws of layer 16 say of a step, in plain words (no program): a table's entries and what they come to, a program that goes round, one that doesn't jump, and the law's own two runs. No conditions but those that each theorem states. -/
import Derived.Test.YtpoahegccjgnjaaGreatDoorQMath
import Derived.Test.YtpoahegccjgnjaaGreatDoorKCmp
namespace Go.Proofs.YtpoahegccjgnjaaGreatDoor
open Go Go.RowKit
set_option linter.unusedVariables false

/-- Are two values the same? -/
def eqV (x y : V) : Bool := x.k == y.k && x.n == y.n && (x.s.toList == y.s.toList)
theorem eqV_iff {x y : V} : eqV x y = true ↔ x = y := by
  obtain ⟨k, n, s⟩ := x
  obtain ⟨k', n', s'⟩ := y
  unfold eqV
  simp only [Bool.and_eq_true, beq_iff_eq, V.mk.injEq]
  constructor
  · rintro ⟨⟨rfl, rfl⟩, h⟩
    rw [ByteArray.toList_eq, ByteArray.toList_eq] at h
    exact ⟨rfl, rfl, by rw [← mkB_self s, ← mkB_self s', h]⟩
  · rintro ⟨rfl, rfl, rfl⟩
    exact ⟨⟨rfl, rfl⟩, rfl⟩
theorem eqV_self (x : V) : eqV x x = true := eqV_iff.2 rfl
theorem eqV_no {x y : V} (h : x ≠ y) : eqV x y = false := by
  cases he : eqV x y with
  | false => rfl
  | true => exact absurd (eqV_iff.1 he) h

/-- An entry of a table; a child that is started; a step under way. -/
structure Wr where
  k : V
  v : V
  g : Bool
structure Sp where
  p : Int
  a : V
  k : V
structure Ms where
  pc : Int
  rg : List V
  pu : List Wr
  ou : List V
  ki : List Sp
  sl : Int
/-- What comes of an instruction: it may not be; the step goes on; it ends. -/
abbrev Rs := Option (Ms × Option (Int × V))
abbrev Rs.bad : Rs := none
abbrev Rs.go (S : Ms) : Rs := some (S, none)
abbrev Rs.fin (S : Ms) (en : Int) (v : V) : Rs := some (S, some (en, v))
def nV (n : Int) : V := ⟨1, n, ⟨#[]⟩⟩
def dW : Wr := ⟨zV, zV, false⟩
def beh (x : Wr) : Option V := if x.g then none else some x.v
def nam (p : List Wr) (k : V) : Option Nat := p.findIdx? (fun x => eqV x.k k)
/-- What entries have of a key. -/
def lookT (t : List Wr) (k : V) : Option V :=
  match nam t.reverse k with
  | some n => beh (t.reverse.getD n dW)
  | none => none
def Ms.look (T : V → Option V) (S : Ms) (k : V) : Option V :=
  match nam S.pu k with
  | some n => beh (S.pu.getD n dW)
  | none => T k
def Ms.at (S : Ms) (k : Int) : V := S.rg.getD k.toNat zV
def Ms.set (S : Ms) (k : Int) (v : V) : Ms := ⟨S.pc, S.rg.set k.toNat v, S.pu, S.ou, S.ki, S.sl⟩
def Ms.to (S : Ms) (k : Int) : Ms := ⟨k, S.rg, S.pu, S.ou, S.ki, S.sl⟩
def Ms.put (S : Ms) (x : Wr) : Rs :=
  match nam S.pu x.k with
  | some n => .go ⟨S.pc, S.rg, S.pu.set n x, S.ou, S.ki, S.sl⟩
  | none => if S.pu.length + 1 ≤ 8 then .go ⟨S.pc, S.rg, S.pu ++ [x], S.ou, S.ki, S.sl⟩ else .bad
def Ms.sum (S : Ms) (x : In) (f : Int → Int → Int) : Rs :=
  if (S.at x.b).k = 1 ∧ (S.at x.c).k = 1 then .go (S.set x.a (nV (wrap64 (f (S.at x.b).n (S.at x.c).n)))) else .bad
def tru (b : Bool) : V := if b then nV 1 else nV 0
def doN (T : V → Option V) (x : In) (S : Ms) : Nat → Rs
  | 1 => .go (S.set x.a x.v)
  | 2 => .go (S.set x.a (S.at x.b))
  | 3 => S.sum x (· + ·)
  | 4 => S.sum x (· - ·)
  | 5 => S.sum x (· * ·)
  | 6 => if ((S.at x.b).k = 2 ∧ (S.at x.c).k = 2) ∧ (S.at x.b).s.size + (S.at x.c).s.size ≤ 10 then .go (S.set x.a ⟨2, 0, (S.at x.b).s ++ (S.at x.c).s⟩) else .bad
  | 7 => .go (S.set x.a (tru (decide (cmpV (S.at x.b) (S.at x.c) < 0))))
  | 8 => .go (S.set x.a (tru (eqV (S.at x.b) (S.at x.c))))
  | 9 => .go (S.to x.a)
  | 10 => .go (if eqV (S.at x.b) (nV 0) then S.to x.a else S)
  | 11 => if okC ((S.look T (S.at x.b)).getD (nV 0)) then .go (S.set x.a ((S.look T (S.at x.b)).getD (nV 0))) else .bad
  | 12 => S.put ⟨S.at x.a, S.at x.b, false⟩
  | 13 => S.put ⟨S.at x.a, zV, true⟩
  | 14 => if S.ou.length + 1 ≤ 4 then .go ⟨S.pc, S.rg, S.pu, S.ou ++ [S.at x.a], S.ki, S.sl⟩ else .bad
  | 15 => if (S.at x.a).k = 1 ∧ 0 ≤ (S.at x.a).n ∧ (S.at x.a).n ≤ 1000000 then .go ⟨S.pc, S.rg, S.pu, S.ou, S.ki, (S.at x.a).n⟩ else .bad
  | 16 => if S.ki.length + 1 ≤ 2 then .go ⟨S.pc, S.rg, S.pu, S.ou, S.ki ++ [⟨x.a, S.at x.b, S.at x.c⟩], S.sl⟩ else .bad
  | 17 => .fin S 0 zV
  | 18 => .fin S 1 (S.at x.a)
  | 19 => .fin S 2 (S.at x.a)
  | _ => .bad
/-- Effects. -/
structure Ef where
  pu : List Wr
  ou : List V
  ki : List Sp
  sl : Int
  en : Int
  v : V
  pc : Int
  rg : List V
def Ef.none (en : Int) : Ef := ⟨[], [], [], 0, en, zV, 0, []⟩
def Ms.ends (S : Ms) (en : Int) (v : V) : Ef := if en = 0 then ⟨S.pu, S.ou, S.ki, S.sl, 0, zV, S.pc, S.rg⟩ else ⟨S.pu, S.ou, S.ki, S.sl, en, v, 0, []⟩
def dI : In := ⟨0, 0, 0, 0, zV⟩
def doS (T : V → Option V) (l : List In) (S : Ms) : Rs := doN T (l.getD S.pc.toNat dI) (S.to (S.pc + 1)) (l.getD S.pc.toNat dI).op.toNat
def runM (T : V → Option V) (l : List In) : Nat → Ms → Ef
  | 0, _ => .none 3
  | n + 1, S => match doS T l S with
    | none => .none 3
    | some (S', none) => runM T l n S'
    | some (S', some (en, v)) => S'.ends en v
/-- May a frame be; and what Run answers. -/
def rightF (l : List In) (pc : Int) (rg : List V) : Bool := decide ((chkI l).1 = 0) && decide (0 ≤ pc) && decide (pc < (l.length : Int)) && decide (rg.length = 6) && rg.all okC
def begM (pc : Int) (rg : List V) : Ms := ⟨pc, rg, [], [], [], 0⟩
def runE (T : V → Option V) (l : List In) (pc : Int) (rg : List V) : Ef := if rightF l pc rg then runM T l 200 (begM pc rg) else .none 0
def runX (l : List In) (pc : Int) (rg : List V) : Int := if rightF l pc rg then 0 else 4

theorem getD_lt {α : Type} (l : List α) (i : Nat) (d : α) (h : i < l.length) : l.getD i d = l[i] := by
  rw [List.getD_eq_getElem?_getD, List.getElem?_eq_getElem h]; rfl
theorem getD_in {α : Type} (l : List α) (i : Nat) (d : α) (h : i < l.length) : l.getD i d ∈ l := by
  rw [getD_lt l i d h]; exact List.getElem_mem h
theorem nam_some {p : List Wr} {k : V} {n : Nat} (h : nam p k = some n) : n < p.length ∧ (p.getD n dW).k = k ∧ ∀ j, j < n → (p.getD j dW).k ≠ k := by
  unfold nam at h
  rw [List.findIdx?_eq_some_iff_getElem] at h
  obtain ⟨hn, h1, h2⟩ := h
  refine ⟨hn, by rw [getD_lt p n dW hn]; exact eqV_iff.1 h1, fun j hj he => ?_⟩
  have := h2 j hj
  rw [getD_lt p j dW (by omega)] at he
  exact this (eqV_iff.2 he)
theorem nam_none {p : List Wr} {k : V} (h : nam p k = none) : ∀ j, j < p.length → (p.getD j dW).k ≠ k := by
  unfold nam at h
  rw [List.findIdx?_eq_none_iff] at h
  intro j hj he
  have := h _ (getD_in p j dW hj)
  rw [eqV_iff.2 he] at this
  cases this
theorem nam_at {p : List Wr} {k : V} {n : Nat} (hn : n < p.length) (h1 : (p.getD n dW).k = k) (h2 : ∀ j, j < n → (p.getD j dW).k ≠ k) : nam p k = some n := by
  unfold nam
  rw [List.findIdx?_eq_some_iff_getElem]
  refine ⟨hn, eqV_iff.2 (by rw [← getD_lt p n dW hn]; exact h1), fun j hj he => ?_⟩
  have := h2 j hj
  rw [getD_lt p j dW (by omega)] at this
  exact this (eqV_iff.1 he)
theorem nam_not {p : List Wr} {k : V} (h : ∀ j, j < p.length → (p.getD j dW).k ≠ k) : nam p k = none := by
  cases hn : nam p k with
  | none => rfl
  | some n => exact absurd (nam_some hn).2.1 (h n (nam_some hn).1)

end Go.Proofs.YtpoahegccjgnjaaGreatDoor

namespace Go.Proofs.YtpoahegccjgnjaaGreatDoor
open Go Go.RowKit
set_option linter.unusedVariables false

/-- An instruction of a program that may be run: its registers, and where it goes on. -/
structure Opd (l : List In) (x : In) (pc : Int) : Prop where
  o1 : 1 ≤ x.op
  o2 : x.op ≤ 19
  a : (x.op ≠ 9 ∧ x.op ≠ 10 ∧ x.op ≠ 16 ∧ x.op ≠ 17) → 0 ≤ x.a ∧ x.a < 6
  b : (2 ≤ x.op ∧ x.op ≤ 8 ∨ x.op = 10 ∨ x.op = 11 ∨ x.op = 12 ∨ x.op = 16) → 0 ≤ x.b ∧ x.b < 6
  c : (3 ≤ x.op ∧ x.op ≤ 8 ∨ x.op = 16) → 0 ≤ x.c ∧ x.c < 6
  t : (x.op = 9 ∨ x.op = 10) → 0 ≤ x.a ∧ x.a < (l.length : Int)
  n : (x.op ≠ 9 ∧ x.op ≠ 18 ∧ x.op ≠ 19) → pc + 1 < (l.length : Int)
  v : x.op = 1 → okC x.v = true
  w : x.wf
  ab : byteOk x.a = true
theorem byte0 {o : Int} (h : byteOk o = true) : 0 ≤ o := (of_decide_eq_true h).1
theorem mem_all {α : Type} {p : α → Bool} {l : List α} (h : l.all p = true) {x : α} (hx : x ∈ l) : p x = true := List.all_eq_true.1 h x hx
theorem op_cases (op : Int) (h1 : 1 ≤ op) (h2 : op ≤ 19) : op = 1 ∨ op = 2 ∨ op = 3 ∨ op = 4 ∨ op = 5 ∨ op = 6 ∨ op = 7 ∨ op = 8 ∨ op = 9 ∨ op = 10 ∨ op = 11 ∨ op = 12 ∨ op = 13 ∨ op = 14 ∨ op = 15 ∨ op = 16 ∨ op = 17 ∨ op = 18 ∨ op = 19 := by omega
theorem opd_of {l : List In} (h : RunOk l) (hw : ∀ x ∈ l, x.wf) (pc : Int) (h0 : 0 ≤ pc) (h1 : pc < (l.length : Int)) : Opd l (l.getD pc.toNat dI) pc := by
  have hlt : pc.toNat < l.length := by omega
  have hm : l.getD pc.toNat dI ∈ l := getD_in l _ dI hlt
  have hok := mem_all h.ok hm
  have hrg := mem_all h.rg hm
  have htg := mem_all h.tg hm
  have hwf := hw _ hm
  have hen : ¬ pc + 1 < (l.length : Int) → endsI (l.getD pc.toNat dI) = true := by
    intro hh
    have := h.en
    rw [show l.length - 1 = pc.toNat by omega] at this
    exact this
  generalize l.getD pc.toNat dI = x at *
  obtain ⟨op, a, b, c, v⟩ := x
  obtain ⟨k1, k2, k3, k4, k5⟩ := okI_parts hok
  dsimp only at k1 k2 k3 k4 k5
  obtain ⟨g1, g2⟩ := of_decide_eq_true k1
  have ha := (fit_lt k2).1
  have a0 := byte0 (fit_lt k2).1
  have b0 := byte0 (fit_lt k3).1
  have c0 := byte0 (fit_lt k4).1
  have hv : op = 1 → okC v = true := fun e => by rw [if_pos e] at k5; exact k5
  have ht : (op = 9 ∨ op = 10) → a < (l.length : Int) := by
    intro e
    unfold tgtOk hasT at htg
    rcases e with rfl | rfl <;> simpa using htg
  have hn : (op ≠ 9 ∧ op ≠ 18 ∧ op ≠ 19) → pc + 1 < (l.length : Int) := by
    rintro ⟨e1, e2, e3⟩
    by_cases hh : pc + 1 < (l.length : Int)
    · exact hh
    · have := hen hh
      simp [endsI, e1, e2, e3] at this
  refine ⟨g1, g2, ?_, ?_, ?_, fun e => ⟨a0, ht e⟩, hn, hv, hwf, ha⟩
  all_goals unfold regOk regsI opL nOps skipA at hrg
  all_goals dsimp only at hrg ⊢
  all_goals intro e
  · refine ⟨a0, ?_⟩
    rcases op_cases op g1 g2 with rfl | rfl | rfl | rfl | rfl | rfl | rfl | rfl | rfl | rfl | rfl | rfl | rfl | rfl | rfl | rfl | rfl | rfl | rfl <;> first | omega | (simp [tabO] at hrg; omega)
  · refine ⟨b0, ?_⟩
    rcases op_cases op g1 g2 with rfl | rfl | rfl | rfl | rfl | rfl | rfl | rfl | rfl | rfl | rfl | rfl | rfl | rfl | rfl | rfl | rfl | rfl | rfl <;> first | omega | (simp [tabO] at hrg; omega)
  · refine ⟨c0, ?_⟩
    rcases op_cases op g1 g2 with rfl | rfl | rfl | rfl | rfl | rfl | rfl | rfl | rfl | rfl | rfl | rfl | rfl | rfl | rfl | rfl | rfl | rfl | rfl <;> first | omega | (simp [tabO] at hrg; omega)

/-- A value that a register may have. -/
def Rv (x : V) : Prop := x.wf ∧ okC x = true
theorem wrap64_lo (n : Int) : -9223372036854775808 ≤ wrap64 n := by unfold wrap64; omega
theorem wrap64_hi (n : Int) : wrap64 n < 9223372036854775808 := by unfold wrap64; omega
theorem empty_list : (⟨#[]⟩ : ByteArray).toList = [] := by rw [ByteArray.toList_eq]
theorem rv_nV (n : Int) (h0 : -9223372036854775808 ≤ n) (h1 : n < 9223372036854775808) : Rv (nV n) := by
  refine ⟨⟨h0, h1, Nat.zero_le _⟩, ?_⟩
  unfold okC okV nV
  dsimp only
  rw [empty_list]
  rfl
theorem rv_n0 : Rv (nV 0) := rv_nV 0 (by decide) (by decide)
theorem rv_tru (b : Bool) : Rv (tru b) := by unfold tru; cases b <;> exact rv_nV _ (by decide) (by decide)
theorem okC_size {x : V} (h : okC x = true) : x.s.size ≤ 10 := by
  unfold okC at h
  rw [Bool.and_eq_true] at h
  exact of_decide_eq_true h.2
theorem rv_cat (s : ByteArray) (h : s.size ≤ 10) : Rv ⟨2, 0, s⟩ := by
  refine ⟨⟨by show (-9223372036854775808 : Int) ≤ 0; decide, by show (0 : Int) < 9223372036854775808; decide, Nat.le_trans h (by decide)⟩, ?_⟩
  unfold okC okV
  simp [h]
/-- What the state keeps to while its place may lie behind the last instruction; and what it keeps to ahead of each one. -/
structure Ms.okk (S : Ms) : Prop where
  r6 : S.rg.length = 6
  rw : ∀ x ∈ S.rg, Rv x
  pl : S.pu.length ≤ 8
  ol : S.ou.length ≤ 4
  kl : S.ki.length ≤ 2
  pw : ∀ x ∈ S.pu, x.k.wf ∧ x.v.wf
structure Ms.ok (l : List In) (S : Ms) : Prop where
  p0 : 0 ≤ S.pc
  p1 : S.pc < (l.length : Int)
  k : S.okk
theorem Ms.okk.ok {l : List In} {S : Ms} (h : S.okk) (h0 : 0 ≤ S.pc) (h1 : S.pc < (l.length : Int)) : S.ok l := ⟨h0, h1, h⟩
theorem Ms.okk.at {S : Ms} (h : S.okk) (k : Int) (h0 : 0 ≤ k) (h1 : k < 6) : Rv (S.at k) := h.rw _ (getD_in _ _ _ (by have := h.r6; omega))
theorem Ms.okk.set {S : Ms} (h : S.okk) (k : Int) (v : V) (hv : Rv v) : (S.set k v).okk :=
  ⟨by show (S.rg.set _ _).length = 6; rw [List.length_set]; exact h.r6, fun x hx => by
    rcases List.mem_or_eq_of_mem_set hx with hx | rfl
    · exact h.rw x hx
    · exact hv, h.pl, h.ol, h.kl, h.pw⟩
theorem Ms.okk.to {S : Ms} (h : S.okk) (k : Int) : (S.to k).okk := ⟨h.r6, h.rw, h.pl, h.ol, h.kl, h.pw⟩
/-- What every state of a step, and of its end, keeps to. -/
def Rs.okR (l : List In) : Rs → Prop
  | none => True
  | some (S, none) => S.ok l
  | some (S, some (en, v)) => S.okk ∧ ((en = 0 ∧ 0 ≤ S.pc ∧ S.pc < (l.length : Int)) ∨ ((en = 1 ∨ en = 2) ∧ Rv v))
theorem put_ok {l : List In} {S : Ms} (h : S.okk) (h0 : 0 ≤ S.pc) (h1 : S.pc < (l.length : Int)) (x : Wr) (hx : x.k.wf ∧ x.v.wf) : (S.put x).okR l := by
  unfold Ms.put
  split
  · exact ⟨h0, h1, h.r6, h.rw, by show (S.pu.set _ _).length ≤ 8; rw [List.length_set]; exact h.pl, h.ol, h.kl, fun y hy => by
      rcases List.mem_or_eq_of_mem_set hy with hy | rfl
      · exact h.pw y hy
      · exact hx⟩
  · split
    · next hl => exact ⟨h0, h1, h.r6, h.rw, by show (S.pu ++ [x]).length ≤ 8; rw [List.length_append]; exact hl, h.ol, h.kl, fun y hy => by
        rcases List.mem_append.1 hy with hy | hy
        · exact h.pw y hy
        · rw [List.mem_singleton.1 hy]; exact hx⟩
    · trivial
theorem sum_ok {l : List In} {S : Ms} (h : S.okk) (h0 : 0 ≤ S.pc) (h1 : S.pc < (l.length : Int)) (x : In) (f : Int → Int → Int) : (S.sum x f).okR l := by
  unfold Ms.sum
  split
  · exact (h.set _ _ (rv_nV _ (wrap64_lo _) (wrap64_hi _))).ok h0 h1
  · trivial
/-- The table's values are such as lie in memory. -/
def Twf (T : V → Option V) : Prop := ∀ k v, T k = some v → v.wf
theorem look_wf {T : V → Option V} (hT : Twf T) {S : Ms} (hP : S.okk) (k : V) : ((S.look T k).getD (nV 0)).wf := by
  unfold Ms.look
  split
  · next n hn =>
    have := hP.pw _ (getD_in S.pu n dW (nam_some hn).1)
    unfold beh
    split
    · exact rv_n0.1
    · exact this.2
  · cases hk : T k with
    | none => exact rv_n0.1
    | some v => exact hT k v hk
theorem doN_ok (T : V → Option V) (hT : Twf T) (l : List In) (x : In) (S : Ms) (pc : Int) (h0 : 0 ≤ pc) (ho : Opd l x pc) (hS : S.okk) (hp : S.pc = pc + 1) : (doN T x S x.op.toNat).okR l := by
  obtain ⟨op, a, b, c, v⟩ := x
  obtain ⟨o1, o2, oa, ob, oc, ot, on, ov, ow, _⟩ := ho
  dsimp only at *
  have sa : ∀ (u : V), Rv u → (op ≠ 9 ∧ op ≠ 18 ∧ op ≠ 19) → (S.set a u).ok l := fun u hu hn => (hS.set a u hu).ok (by show 0 ≤ S.pc; omega) (by show S.pc < _; rw [hp]; exact on hn)
  have p0 : 0 ≤ S.pc := by omega
  have p1 : (op ≠ 9 ∧ op ≠ 18 ∧ op ≠ 19) → S.pc < (l.length : Int) := fun h => by rw [hp]; exact on h
  rcases op_cases op o1 o2 with rfl | rfl | rfl | rfl | rfl | rfl | rfl | rfl | rfl | rfl | rfl | rfl | rfl | rfl | rfl | rfl | rfl | rfl | rfl
  · exact sa v ⟨ow.1, ov rfl⟩ (by omega)
  · exact sa _ (hS.at b (ob (by omega)).1 (ob (by omega)).2) (by omega)
  · exact sum_ok hS p0 (p1 (by omega)) _ _
  · exact sum_ok hS p0 (p1 (by omega)) _ _
  · exact sum_ok hS p0 (p1 (by omega)) _ _
  · show Rs.okR l (if _ then _ else _)
    split
    · next h => exact sa _ (rv_cat _ (by rw [ByteArray.size_append]; exact h.2)) (by omega)
    · trivial
  · exact sa _ (rv_tru _) (by omega)
  · exact sa _ (rv_tru _) (by omega)
  · exact (hS.to a).ok (ot (by omega)).1 (ot (by omega)).2
  · show Ms.ok l (if _ then _ else _)
    split
    · exact (hS.to a).ok (ot (by omega)).1 (ot (by omega)).2
    · exact hS.ok p0 (p1 (by omega))
  · show Rs.okR l (if _ then _ else _)
    split
    · next h => exact sa _ ⟨look_wf hT hS _, h⟩ (by omega)
    · trivial
  · exact put_ok hS p0 (p1 (by omega)) _ ⟨(hS.at a (oa (by omega)).1 (oa (by omega)).2).1, (hS.at b (ob (by omega)).1 (ob (by omega)).2).1⟩
  · exact put_ok hS p0 (p1 (by omega)) _ ⟨(hS.at a (oa (by omega)).1 (oa (by omega)).2).1, zV_wf⟩
  · show Rs.okR l (if _ then _ else _)
    split
    · next h => exact ⟨p0, p1 (by omega), hS.r6, hS.rw, hS.pl, by show (S.ou ++ [_]).length ≤ 4; rw [List.length_append]; exact h, hS.kl, hS.pw⟩
    · trivial
  · show Rs.okR l (if _ then _ else _)
    split
    · exact ⟨p0, p1 (by omega), hS.r6, hS.rw, hS.pl, hS.ol, hS.kl, hS.pw⟩
    · trivial
  · show Rs.okR l (if _ then _ else _)
    split
    · next h => exact ⟨p0, p1 (by omega), hS.r6, hS.rw, hS.pl, hS.ol, by show (S.ki ++ [_]).length ≤ 2; rw [List.length_append]; exact h, hS.pw⟩
    · trivial
  · exact ⟨hS, .inl ⟨rfl, p0, p1 (by omega)⟩⟩
  · exact ⟨hS, .inr ⟨.inl rfl, hS.at a (oa (by omega)).1 (oa (by omega)).2⟩⟩
  · exact ⟨hS, .inr ⟨.inr rfl, hS.at a (oa (by omega)).1 (oa (by omega)).2⟩⟩

/-- One instruction of a state that is well. -/
theorem doS_ok (T : V → Option V) (hT : Twf T) (l : List In) (hr : RunOk l) (hw : ∀ x ∈ l, x.wf) (S : Ms) (hS : S.ok l) : (doS T l S).okR l :=
  doN_ok T hT l _ _ S.pc hS.p0 (opd_of hr hw S.pc hS.p0 hS.p1) (hS.k.to _) rfl
theorem runM_zero (T : V → Option V) (l : List In) (S : Ms) : runM T l 0 S = .none 3 := rfl
theorem runM_bad {T : V → Option V} {l : List In} {n : Nat} {S : Ms} (h : doS T l S = .bad) : runM T l (n + 1) S = .none 3 := by rw [runM, h]
theorem runM_go {T : V → Option V} {l : List In} {n : Nat} {S S' : Ms} (h : doS T l S = .go S') : runM T l (n + 1) S = runM T l n S' := by rw [runM, h]
theorem runM_fin {T : V → Option V} {l : List In} {n : Nat} {S S' : Ms} {en : Int} {v : V} (h : doS T l S = .fin S' en v) : runM T l (n + 1) S = S'.ends en v := by rw [runM, h]
theorem beg_ok {l : List In} {pc : Int} {rg : List V} (h : rightF l pc rg = true) (hw : ∀ x ∈ rg, x.wf) : RunOk l ∧ (begM pc rg).ok l := by
  unfold rightF at h
  simp only [Bool.and_eq_true, decide_eq_true_eq] at h
  obtain ⟨⟨⟨⟨h1, h2⟩, h3⟩, h4⟩, h5⟩ := h
  exact ⟨(chk_ok l).1 h1, h2, h3, h4, fun x hx => ⟨hw x hx, mem_all h5 hx⟩, Nat.zero_le _, Nat.zero_le _, Nat.zero_le _, fun x hx => by cases hx⟩

/-- A table plays no part where nothing is loaded. -/
theorem doN_noload (T T' : V → Option V) (x : In) (S : Ms) (n : Nat) (h : n ≠ 11) : doN T x S n = doN T' x S n := by
  unfold doN
  split <;> first | rfl | exact absurd rfl h
theorem run_noload (T T' : V → Option V) (l : List In) (h : ∀ x ∈ l, x.op ≠ 11) : ∀ (n : Nat) (S : Ms), runM T l n S = runM T' l n S
  | 0, _ => rfl
  | n + 1, S => by
    have hd : doS T l S = doS T' l S := by
      unfold doS
      refine doN_noload T T' _ _ _ ?_
      by_cases hl : S.pc.toNat < l.length
      · have := h _ (getD_in l S.pc.toNat dI hl)
        omega
      · rw [List.getD_eq_getElem?_getD, List.getElem?_eq_none (by omega)]
        decide
    unfold runM
    rw [hd]
    split
    · rfl
    · exact run_noload T T' l h n _
    · rfl

end Go.Proofs.YtpoahegccjgnjaaGreatDoor

namespace Go.Proofs.YtpoahegccjgnjaaGreatDoor
open Go Go.RowKit
set_option linter.unusedVariables false

theorem lookT_nil (k : V) : lookT [] k = none := rfl
theorem lookT_snoc (t : List Wr) (x : Wr) (k : V) : lookT (t ++ [x]) k = if eqV x.k k = true then beh x else lookT t k := by
  unfold lookT nam
  rw [List.reverse_append, List.reverse_singleton, List.singleton_append, List.findIdx?_cons]
  by_cases h : eqV x.k k = true
  · rw [if_pos h, if_pos h]
    rfl
  · rw [if_neg h, if_neg h]
    cases List.findIdx? (fun x => eqV x.k k) t.reverse with
    | none => rfl
    | some n => rfl
theorem take_snocW {α : Type} (t : List α) (d : α) (i : Nat) (h : i < t.length) : t.take (i + 1) = t.take i ++ [t.getD i d] := by
  rw [List.take_succ_eq_append_getElem h, getD_lt t i d h]
theorem lookT_take (t : List Wr) (k : V) (i : Nat) (h : i < t.length) : lookT (t.take (i + 1)) k = if eqV (t.getD i dW).k k = true then beh (t.getD i dW) else lookT (t.take i) k := by
  rw [take_snocW t dW i h, lookT_snoc]
/-- Of the entries behind the i-th none has the key. -/
theorem lookT_back (t : List Wr) (k : V) : ∀ (m i : Nat), i + m = t.length → (∀ j, i ≤ j → j < t.length → eqV (t.getD j dW).k k = false) → lookT t k = lookT (t.take i) k
  | 0, i, h, _ => by rw [List.take_of_length_le (by omega)]
  | m + 1, i, h, hn => by
    rw [lookT_back t k m (i + 1) (by omega) (fun j h1 h2 => hn j (by omega) h2), lookT_take t k i (by omega), if_neg (by rw [hn i (Nat.le_refl _) (by omega)]; simp)]
theorem lookT_wf {t : List Wr} (h : ∀ x ∈ t, x.v.wf) : Twf (lookT t) := by
  intro k v hv
  unfold lookT at hv
  split at hv
  · next n hn =>
    have := h _ (List.mem_reverse.1 (getD_in t.reverse n dW (nam_some hn).1))
    unfold beh at hv
    split at hv
    · cases hv
    · cases hv; exact this
  · cases hv
/-- What entries come to, key by key. -/
def shortBy (f : V → Option V) (t : List Wr) : List Wr := t.filterMap (fun x => (f x.k).map (fun v => ⟨x.k, v, false⟩))
theorem shortBy_snoc (f : V → Option V) (t : List Wr) (x : Wr) : shortBy f (t ++ [x]) = match f x.k with
    | some v => shortBy f t ++ [⟨x.k, v, false⟩]
    | none => shortBy f t := by
  unfold shortBy
  rw [List.filterMap_append]
  cases h : f x.k with
  | none => simp [h]
  | some v => simp [h]
theorem look_shortBy (f : V → Option V) (k : V) : ∀ (n : Nat) (t : List Wr), t.length = n → ((∃ x ∈ t, x.k = k) → lookT (shortBy f t) k = f k) ∧ ((∀ x ∈ t, x.k ≠ k) → lookT (shortBy f t) k = none)
  | 0, t, h => by
    have : t = [] := List.eq_nil_of_length_eq_zero h
    subst this
    exact ⟨fun h => by obtain ⟨x, hx, _⟩ := h; exact absurd hx List.not_mem_nil, fun _ => rfl⟩
  | n + 1, t, h => by
    have hne : t ≠ [] := by rintro rfl; cases h
    obtain ⟨u, x, rfl⟩ : ∃ u x, t = u ++ [x] := ⟨_, _, (List.dropLast_concat_getLast hne).symm⟩
    have ih := look_shortBy f k n u (by simpa using h)
    rw [shortBy_snoc]
    cases hf : f x.k with
    | none =>
      dsimp only
      refine ⟨fun ⟨y, hy, e⟩ => ?_, fun hn => ih.2 (fun y hy => hn y (List.mem_append_left _ hy))⟩
      by_cases hu : ∃ y ∈ u, y.k = k
      · exact ih.1 hu
      · rcases List.mem_append.1 hy with hy | hy
        · exact absurd ⟨y, hy, e⟩ hu
        · rw [List.mem_singleton.1 hy] at e
          rw [ih.2 (fun z hz he => hu ⟨z, hz, he⟩), ← e, hf]
    | some v =>
      dsimp only
      rw [lookT_snoc]
      dsimp only
      by_cases hk : x.k = k
      · rw [if_pos (eqV_iff.2 hk)]
        exact ⟨fun _ => by rw [← hk, hf]; rfl, fun hn => absurd hk (hn x (List.mem_append_right _ (List.mem_singleton.2 rfl)))⟩
      · rw [if_neg (by rw [eqV_no hk]; simp)]
        refine ⟨fun ⟨y, hy, e⟩ => ?_, fun hn => ih.2 (fun y hy => hn y (List.mem_append_left _ hy))⟩
        rcases List.mem_append.1 hy with hy | hy
        · exact ih.1 ⟨y, hy, e⟩
        · rw [List.mem_singleton.1 hy] at e; exact absurd e hk
theorem lookT_not {t : List Wr} {k : V} (h : ∀ x ∈ t, x.k ≠ k) : lookT t k = none := by
  unfold lookT
  rw [nam_not (fun j hj => h _ (List.mem_reverse.1 (getD_in t.reverse j dW hj)))]
def shortT (t : List Wr) : List Wr := shortBy (lookT t) t
theorem look_short (t : List Wr) : lookT (shortT t) = lookT t := by
  funext k
  have h := look_shortBy (lookT t) k t.length t rfl
  by_cases hk : ∃ x ∈ t, x.k = k
  · exact h.1 hk
  · have hn : ∀ x ∈ t, x.k ≠ k := fun x hx e => hk ⟨x, hx, e⟩
    rw [lookT_not hn]
    exact h.2 hn

/-- The first frame's registers. -/
def rgF (a : V) : List V := [a, nV 0, nV 0, nV 0, nV 0, nV 0]
theorem rgF_ok {a : V} (h : Rv a) : ∀ x ∈ rgF a, Rv x := by
  intro x hx
  simp only [rgF, List.mem_cons, List.not_mem_nil, or_false] at hx
  rcases hx with rfl | rfl | rfl | rfl | rfl | rfl
  · exact h
  all_goals exact rv_n0
theorem rightF_of {l : List In} (h : RunOk l) {pc : Int} {rg : List V} (h0 : 0 ≤ pc) (h1 : pc < (l.length : Int)) (h2 : rg.length = 6) (h3 : ∀ x ∈ rg, Rv x) : rightF l pc rg = true := by
  unfold rightF
  simp only [Bool.and_eq_true, decide_eq_true_eq]
  exact ⟨⟨⟨⟨(chk_ok l).2 h, h0⟩, h1⟩, h2⟩, List.all_eq_true.2 (fun x hx => (h3 x hx).2)⟩
theorem okC_nV (n : Int) : okC (nV n) = true := by
  unfold okC okV nV
  dsimp only
  rw [empty_list]
  rfl
theorem zero_z : zeroB zV = true := by
  unfold zeroB zV
  dsimp only
  rw [ByteArray.toList_eq]
  rfl
/-- A program that goes round. -/
def roundP (n : Int) : List In := [⟨1, 1, 0, 0, nV n⟩, ⟨9, 0, 0, 0, zV⟩]
theorem round_ok (n : Int) : RunOk (roundP n) := by
  have e1 : okI ⟨1, 1, 0, 0, nV n⟩ = true := by unfold okI; rw [if_pos rfl, okC_nV]; rfl
  have e2 : okI ⟨9, 0, 0, 0, zV⟩ = true := by unfold okI; rw [if_neg (by decide), zero_z]; decide
  refine ⟨by simp [roundP], by simp [roundP], ?_, ?_, ?_, rfl⟩
  · show (okI _ && (okI _ && true)) = true
    rw [e1, e2]; rfl
  · rfl
  · rfl
theorem round_run (T : V → Option V) (n : Int) : ∀ (m : Nat) (S : Ms), (S.pc = 0 ∨ S.pc = 1) → runM T (roundP n) m S = .none 3
  | 0, _, _ => rfl
  | m + 1, S, h => by
    rcases h with h | h
    · have e : doS T (roundP n) S = .go ((S.to (S.pc + 1)).set 1 (nV n)) := by unfold doS; rw [h]; rfl
      rw [runM_go e]
      exact round_run T n m _ (.inr (by show S.pc + 1 = 1; omega))
    · have e : doS T (roundP n) S = .go ((S.to (S.pc + 1)).to 0) := by unfold doS; rw [h]; rfl
      rw [runM_go e]
      exact round_run T n m _ (.inl rfl)
/-- Instructions that go on at the next one, and ask for nothing that may not be. -/
def calmOp (op : Int) : Bool := op == 1 || op == 2 || op == 7 || op == 8 || op == 11 || op == 17 || op == 18 || op == 19
theorem calm_cases {op : Int} (h : calmOp op = true) : op = 1 ∨ op = 2 ∨ op = 7 ∨ op = 8 ∨ op = 11 ∨ op = 17 ∨ op = 18 ∨ op = 19 := by
  simpa [calmOp, or_assoc] using h
theorem calm_run (l : List In) (hr : RunOk l) (hw : ∀ x ∈ l, x.wf) (hc : ∀ x ∈ l, calmOp x.op = true) : ∀ (m : Nat) (S : Ms), S.ok l → S.pu = [] → (l.length : Int) - S.pc ≤ (m : Int) → (runM (fun _ => none) l m S).en ≠ 3
  | 0, S, hS, _, hm => by have := hS.p1; omega
  | m + 1, S, hS, hp, hm => by
    have ho := opd_of hr hw S.pc hS.p0 hS.p1
    have hcx := calm_cases (hc _ (getD_in l S.pc.toNat dI (by have := hS.p1; have := hS.p0; omega)))
    have hok := doS_ok (fun _ => none) (fun k v h => by cases h) l hr hw S hS
    have key : ∀ S' : Ms, doS (fun _ => none) l S = .go S' → S'.pu = [] → S'.pc = S.pc + 1 → (runM (fun _ => none) l (m + 1) S).en ≠ 3 := by
      intro S' e h1 h2
      rw [runM_go e]
      rw [e] at hok
      exact calm_run l hr hw hc m S' hok h1 (by omega)
    have keyf : ∀ (S' : Ms) (en : Int) (v : V), doS (fun _ => none) l S = .fin S' en v → en ≠ 3 → (runM (fun _ => none) l (m + 1) S).en ≠ 3 := by
      intro S' en v e h1
      rw [runM_fin e]
      unfold Ms.ends
      split
      · show (0 : Int) ≠ 3; decide
      · exact h1
    unfold doS at key keyf
    generalize l.getD S.pc.toNat dI = x at *
    obtain ⟨op, a, b, c, v⟩ := x
    dsimp only at *
    rcases hcx with rfl | rfl | rfl | rfl | rfl | rfl | rfl | rfl
    · exact key _ rfl hp rfl
    · exact key _ rfl hp rfl
    · exact key _ rfl hp rfl
    · exact key _ rfl hp rfl
    · have e : (S.to (S.pc + 1)).look (fun _ => none) ((S.to (S.pc + 1)).at b) = none := by
        unfold Ms.look
        show (match nam S.pu _ with | some n => beh (S.pu.getD n dW) | none => none) = none
        rw [hp]; rfl
      refine key ((S.to (S.pc + 1)).set a (nV 0)) ?_ hp rfl
      show (if okC (((S.to (S.pc + 1)).look (fun _ => none) ((S.to (S.pc + 1)).at b)).getD (nV 0)) = true then _ else _) = _
      rw [e]
      exact if_pos (okC_nV 0)
    · exact keyf _ _ _ rfl (by decide)
    · exact keyf _ _ _ rfl (by decide)
    · exact keyf _ _ _ rfl (by decide)

/-- The two runs that the laws begin with. -/
def prog5 : List In := [⟨1, 1, 0, 0, nV 2⟩, ⟨3, 0, 0, 1, zV⟩, ⟨17, 0, 0, 0, zV⟩, ⟨18, 0, 0, 0, zV⟩]
theorem prog5_ok : RunOk prog5 := by
  have e1 : okI ⟨1, 1, 0, 0, nV 2⟩ = true := by unfold okI; rw [if_pos rfl, okC_nV]; rfl
  have e2 : okI ⟨3, 0, 0, 1, zV⟩ = true := by unfold okI; rw [if_neg (by decide), zero_z]; decide
  have e3 : okI ⟨17, 0, 0, 0, zV⟩ = true := by unfold okI; rw [if_neg (by decide), zero_z]; decide
  have e4 : okI ⟨18, 0, 0, 0, zV⟩ = true := by unfold okI; rw [if_neg (by decide), zero_z]; decide
  refine ⟨by simp [prog5], by simp [prog5], ?_, ?_, ?_, rfl⟩
  · show (okI _ && (okI _ && (okI _ && (okI _ && true)))) = true
    rw [e1, e2, e3, e4]; rfl
  · rfl
  · rfl
def rg7 : List V := [nV 7, nV 2, nV 0, nV 0, nV 0, nV 0]
theorem rg7_ok : ∀ x ∈ rg7, Rv x := by
  intro x hx
  simp only [rg7, List.mem_cons, List.not_mem_nil, or_false] at hx
  rcases hx with rfl | rfl | rfl | rfl | rfl | rfl <;> exact rv_nV _ (by decide) (by decide)
theorem run5 (T : V → Option V) : runE T prog5 0 (rgF (nV 5)) = ⟨[], [], [], 0, 0, zV, 3, rg7⟩ ∧ runX prog5 0 (rgF (nV 5)) = 0 := by
  have h := rightF_of prog5_ok (pc := 0) (rg := rgF (nV 5)) (by decide) (by decide) rfl (rgF_ok (rv_nV 5 (by decide) (by decide)))
  unfold runE runX
  rw [if_pos h, if_pos h]
  refine ⟨?_, rfl⟩
  have e7 : doS T prog5 ⟨1, [nV 5, nV 2, nV 0, nV 0, nV 0, nV 0], [], [], [], 0⟩ = .go ⟨2, rg7, [], [], [], 0⟩ := by
    show Ms.sum ⟨2, [nV 5, nV 2, nV 0, nV 0, nV 0, nV 0], [], [], [], 0⟩ ⟨3, 0, 0, 1, zV⟩ (· + ·) = _
    unfold Ms.sum
    rw [if_pos ⟨rfl, rfl⟩]
    show Rs.go ⟨2, [nV (wrap64 (5 + 2)), nV 2, nV 0, nV 0, nV 0, nV 0], [], [], [], 0⟩ = _
    rw [show wrap64 (5 + 2) = 7 by unfold wrap64; omega]
    rfl
  rw [runM_go (S' := ⟨1, [nV 5, nV 2, nV 0, nV 0, nV 0, nV 0], [], [], [], 0⟩) rfl, runM_go e7, runM_fin (S' := ⟨3, rg7, [], [], [], 0⟩) (en := 0) (v := zV) rfl]
  rfl
theorem run7 (T : V → Option V) : runE T prog5 3 rg7 = ⟨[], [], [], 0, 1, nV 7, 0, []⟩ ∧ runX prog5 3 rg7 = 0 := by
  have h := rightF_of prog5_ok (pc := 3) (rg := rg7) (by decide) (by decide) rfl rg7_ok
  unfold runE runX
  rw [if_pos h, if_pos h]
  refine ⟨?_, rfl⟩
  rw [runM_fin (S' := ⟨4, rg7, [], [], [], 0⟩) (en := 1) (v := nV 7) rfl]
  rfl

end Go.Proofs.YtpoahegccjgnjaaGreatDoor
