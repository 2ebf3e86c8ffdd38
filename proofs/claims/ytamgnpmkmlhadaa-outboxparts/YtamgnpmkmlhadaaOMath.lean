/- Plain: messages, as bytes and in rows; no memory. -/
import Derived.Test.YtamgnpmkmlhadaaERi
namespace Go.Proofs.Ytamgnpmkmlhadaa
open Go.RowKit
set_option linter.unusedVariables false

/-- A message. -/
structure Ms where
  q : Int
  f : Int
  t : Int
  v : V
def zM : Ms := ⟨0, 0, 0, zV⟩
def Ms.wf (m : Ms) : Prop := ir m.q ∧ ir m.f ∧ ir m.t ∧ m.v.wf
def Ms.cells (m : Ms) : List Value := [.int .i64 m.q, .int .i64 m.f, .int .i64 m.t, .int .i64 m.v.k, .int .i64 m.v.n, .string m.v.s]
def Ms.val (m : Ms) : Value := .agg #[.int .i64 m.q, .int .i64 m.f, .int .i64 m.t, .int .i64 m.v.k, .int .i64 m.v.n, .string m.v.s]
def nOk (m : Ms) : Bool := decide (1 ≤ m.q ∧ m.q ≤ 2147483647) && (decide (0 ≤ m.f ∧ m.f ≤ 65535) && decide (0 ≤ m.t ∧ m.t ≤ 255))
def okM (m : Ms) : Bool := okC m.v && nOk m
def keyM (m : Ms) : List UInt8 := be m.q.toNat 4
def rstM (m : Ms) : List UInt8 := be m.f.toNat 2 ++ (be m.t.toNat 1 ++ encC m.v)
def mK (m : Ms) : ByteArray := if okM m then mkB (keyM m) else mkB []
def mR (m : Ms) : ByteArray := if okM m then mkB (rstM m) else mkB []
def mE (m : Ms) : Int := if okM m then 0 else 4
theorem okM_parts {m : Ms} (h : okM m = true) : okC m.v = true ∧ (1 ≤ m.q ∧ m.q ≤ 2147483647) ∧ (0 ≤ m.f ∧ m.f ≤ 65535) ∧ (0 ≤ m.t ∧ m.t ≤ 255) := by
  unfold okM nOk at h
  simp only [Bool.and_eq_true] at h
  obtain ⟨h1, h2, h3, h4⟩ := h
  exact ⟨h1, of_decide_eq_true h2, of_decide_eq_true h3, of_decide_eq_true h4⟩
theorem okM_of {m : Ms} (h1 : okC m.v = true) (h2 : 1 ≤ m.q ∧ m.q ≤ 2147483647) (h3 : 0 ≤ m.f ∧ m.f ≤ 65535) (h4 : 0 ≤ m.t ∧ m.t ≤ 255) : okM m = true := by
  unfold okM nOk
  simp only [Bool.and_eq_true]
  exact ⟨h1, decide_eq_true h2, decide_eq_true h3, decide_eq_true h4⟩
theorem zM_wf : zM.wf := ⟨by show ir 0; unfold ir; omega, by show ir 0; unfold ir; omega, by show ir 0; unfold ir; omega, by decide, by decide, by decide⟩
/-- What is told of a message's bytes. -/
def ToldM (k r : ByteArray) (x : Ms) (er : Int) : Prop := (er = 0 ∧ okM x = true ∧ x.wf ∧ keyM x = k.data.toList ∧ rstM x = r.data.toList) ∨ (er = 10 ∧ x = zM ∧ ∀ y : Ms, y.wf → okM y = true → keyM y = k.data.toList → rstM y ≠ r.data.toList)

/-- How bytes are read. -/
def tM (r : ByteArray) : Sr := nN (nN (r, 0) 2) 1
def pM (k r : ByteArray) (x : V) : Ms := ⟨(nX (k, 0) 4 : Int), (nX (r, 0) 2 : Int), (nX (nN (r, 0) 2) 1 : Int), x⟩
theorem rd_app (y : Ms) (hk : okM y = true) :
    (nX (mkB (keyM y), 0) 4 = y.q.toNat ∧ nN (mkB (keyM y), 0) 4 = (mkB [], 0)) ∧ nX (mkB (rstM y), 0) 2 = y.f.toNat ∧ nX (nN (mkB (rstM y), 0) 2) 1 = y.t.toNat ∧ tM (mkB (rstM y)) = (mkB (encC y.v), 0) := by
  obtain ⟨h1, h2, h3, h4⟩ := okM_parts hk
  unfold keyM rstM tM
  have a := num_app y.q.toNat 4 [] (by show _ < 4294967296; omega)
  rw [List.append_nil] at a
  obtain ⟨b1, b2⟩ := num_app y.f.toNat 2 (be y.t.toNat 1 ++ encC y.v) (by show _ < 65536; omega)
  obtain ⟨c1, c2⟩ := num_app y.t.toNat 1 (encC y.v) (by show _ < 256; omega)
  rw [b2]
  exact ⟨a, b1, c1, c2⟩
theorem rd_of (k r : ByteArray) (h1 : (nN (k, 0) 4).2 = 0) (h2 : (nN (k, 0) 4).1.size = 0) (h3 : (tM r).2 = 0) :
    k.data.toList = be (nX (k, 0) 4) 4 ∧ r.data.toList = be (nX (r, 0) 2) 2 ++ (be (nX (nN (r, 0) 2) 1) 1 ++ (tM r).1.data.toList) := by
  obtain ⟨_, a, _⟩ := num_of (k, 0) 4 h1
  rw [size_nil _ h2, List.append_nil] at a
  obtain ⟨b1, b2, _⟩ := num_of (nN (r, 0) 2) 1 h3
  obtain ⟨_, c2, _⟩ := num_of (r, 0) 2 b1
  rw [b2] at c2
  exact ⟨a, c2⟩
theorem pM_key (k r : ByteArray) (x : V) (h1 : (nN (k, 0) 4).2 = 0) (h2 : (nN (k, 0) 4).1.size = 0) (h3 : (tM r).2 = 0) (hx : encC x = (tM r).1.data.toList) : keyM (pM k r x) = k.data.toList ∧ rstM (pM k r x) = r.data.toList := by
  obtain ⟨a, b⟩ := rd_of k r h1 h2 h3
  unfold keyM rstM pM
  dsimp only
  rw [hx]
  exact ⟨a.symm, b.symm⟩
theorem pM_back (k r : ByteArray) (y : Ms) (hk : okM y = true) (e1 : keyM y = k.data.toList) (e2 : rstM y = r.data.toList) : pM k r y.v = y ∧ nN (k, 0) 4 = (mkB [], 0) ∧ tM r = (mkB (encC y.v), 0) := by
  obtain ⟨h1, h2, h3, h4⟩ := okM_parts hk
  obtain ⟨⟨a1, a2⟩, b1, c1, d⟩ := rd_app y hk
  rw [e1, mkB_self] at a1 a2
  rw [e2, mkB_self] at b1 c1 d
  refine ⟨?_, a2, d⟩
  unfold pM
  rw [a1, b1, c1]
  obtain ⟨q, f, t, v⟩ := y
  dsimp only at h2 h3 h4 ⊢
  rw [show ((q.toNat : Nat) : Int) = q by omega, show ((f.toNat : Nat) : Int) = f by omega, show ((t.toNat : Nat) : Int) = t by omega]
theorem pM_wf (k r : ByteArray) (x : V) (hx : x.wf) : (pM k r x).wf := by
  have a := nX_lt (k, 0) 4
  have b := nX_lt (r, 0) 2
  have c := nX_lt (nN (r, 0) 2) 1
  have e4 : (256 : Nat) ^ 4 = 4294967296 := by decide
  have e2 : (256 : Nat) ^ 2 = 65536 := by decide
  have e1 : (256 : Nat) ^ 1 = 256 := by decide
  rw [e4] at a
  rw [e2] at b
  rw [e1] at c
  unfold pM Ms.wf ir
  dsimp only
  exact ⟨by omega, by omega, by omega, hx⟩
theorem key_inj {x y : Ms} (hx : okM x = true) (hy : okM y = true) (wx : x.wf) (wy : y.wf) (h1 : keyM x = keyM y) (h2 : rstM x = rstM y) : x = y := by
  obtain ⟨a1, a2, a3⟩ := pM_back (mkB (keyM x)) (mkB (rstM x)) x hx rfl rfl
  obtain ⟨b1, b2, b3⟩ := pM_back (mkB (keyM x)) (mkB (rstM x)) y hy h1.symm h2.symm
  rw [a3] at b3
  have e : encC x.v = encC y.v := by
    have := congrArg (fun t : Sr => t.1.data.toList) b3
    exact this
  have ev := encC_inj x.v y.v wx.2.2.2 wy.2.2.2 (okM_parts hx).1 (okM_parts hy).1 e
  rw [← a1, ← b1, ev]
theorem toldM_one {k r : ByteArray} {x y : Ms} {e f : Int} (h : ToldM k r x e) (g : ToldM k r y f) : x = y ∧ e = f := by
  rcases h with ⟨rfl, h1, h2, h3, h4⟩ | ⟨rfl, rfl, h1⟩ <;> rcases g with ⟨rfl, g1, g2, g3, g4⟩ | ⟨rfl, rfl, g1⟩
  · exact ⟨key_inj h1 g1 h2 g2 (h3.trans g3.symm) (h4.trans g4.symm), rfl⟩
  · exact absurd h4 (g1 x h2 h1 h3)
  · exact absurd g4 (h1 y g2 g1 g3)
  · exact ⟨rfl, rfl⟩
theorem toldM_yes (x : Ms) (hk : okM x = true) (hw : x.wf) : ToldM (mK x) (mR x) x 0 := by
  unfold mK mR
  rw [if_pos hk, if_pos hk]
  exact .inl ⟨rfl, hk, hw, rfl, rfl⟩
theorem m_ok {m : Ms} (h : okM m = true) : mK m = mkB (keyM m) ∧ mR m = mkB (rstM m) ∧ mE m = 0 := by unfold mK mR mE; rw [if_pos h, if_pos h, if_pos h]; exact ⟨rfl, rfl, rfl⟩
theorem m_no {m : Ms} (h : okM m = false) : mK m = mkB [] ∧ mR m = mkB [] ∧ mE m = 4 := by unfold mK mR mE; rw [h]; exact ⟨rfl, rfl, rfl⟩

/-- Messages in a row, their numbers from one on to another one, all such as may be. -/
structure Rw9 (a : Nat) (l : List Ms) : Prop where
  num : ∀ i (h : i < l.length), l[i].q = (a : Int) + 1 + (i : Int)
  ok : ∀ m ∈ l, okM m = true ∧ m.wf
theorem Rw9.nil (a : Nat) : Rw9 a [] := ⟨fun i h => absurd h (by simp), fun m h => absurd h (by simp)⟩
theorem Rw9.tail {a : Nat} {x : Ms} {l : List Ms} (h : Rw9 a (x :: l)) : x.q = (a : Int) + 1 ∧ Rw9 (a + 1) l := by
  refine ⟨by have := h.num 0 (by simp); simpa using this, fun i hi => ?_, fun m hm => h.ok m (List.mem_cons_of_mem _ hm)⟩
  have := h.num (i + 1) (by simpa using hi)
  simp only [List.getElem_cons_succ] at this
  rw [this]
  omega
theorem Rw9.drop {a : Nat} {l : List Ms} (h : Rw9 a l) (n : Nat) : Rw9 (a + n) (l.drop n) := by
  refine ⟨fun i hi => ?_, fun m hm => h.ok m (List.mem_of_mem_drop hm)⟩
  rw [List.length_drop] at hi
  have := h.num (n + i) (by omega)
  rw [List.getElem_drop, this]
  omega
theorem Rw9.snoc {a : Nat} {l : List Ms} (h : Rw9 a l) (m : Ms) (hq : m.q = (a : Int) + (l.length : Int) + 1) (hk : okM m = true) (hw : m.wf) : Rw9 a (l ++ [m]) := by
  refine ⟨fun i hi => ?_, fun x hx => ?_⟩
  · rw [List.length_append] at hi
    by_cases hi' : i < l.length
    · rw [List.getElem_append_left hi']
      exact h.num i hi'
    · have : i = l.length := by simp at hi; omega
      subst this
      rw [List.getElem_append_right (Nat.le_refl _)]
      simp
      omega
  · rcases List.mem_append.1 hx with hx | hx
    · exact h.ok x hx
    · rw [List.mem_singleton.1 hx]
      exact ⟨hk, hw⟩
theorem Rw9.filter {a : Nat} {l : List Ms} (h : Rw9 a l) (z : Int) : l.filter (fun m => decide (z < m.q)) = l.drop (max z a - a).toNat := by
  induction l generalizing a with
  | nil => simp
  | cons x l ih =>
    obtain ⟨hx, ht⟩ := h.tail
    have := ih ht
    by_cases hz : z < x.q
    · rw [List.filter_cons_of_pos (by simpa using hz), this, show (max z (a : Int) - (a : Int)).toNat = 0 by omega, show (max z ((a + 1 : Nat) : Int) - ((a + 1 : Nat) : Int)).toNat = 0 by omega]
      rfl
    · rw [List.filter_cons_of_neg (by simpa using hz), this, show (max z (a : Int) - (a : Int)).toNat = (max z ((a + 1 : Nat) : Int) - ((a + 1 : Nat) : Int)).toNat + 1 by omega]
      rfl
/-- The first n above one. -/
def frm (a : Nat) (l : List Ms) (z n : Int) : List Ms := (l.drop (max z a - a).toNat).take n.toNat
theorem frm_none {a : Nat} {l : List Ms} {z n : Int} (h : (l.length : Int) ≤ max z a - a ∨ n < 1) : frm a l z n = [] := by
  unfold frm
  rcases h with h | h
  · rw [List.drop_of_length_le (by omega), List.take_nil]
  · rw [show n.toNat = 0 by omega]
    rfl
theorem frm_len (a : Nat) (l : List Ms) (z n : Int) : (frm a l z n).length ≤ l.length := by
  unfold frm
  rw [List.length_take, List.length_drop]
  omega
/-- What the document tells, so far. -/
def fil (l : List Ms) (z n : Int) : List Ms := (l.filter (fun m => decide (z < m.q))).take n.toNat
theorem Rw9.fil {a : Nat} {l : List Ms} (h : Rw9 a l) (z n : Int) : fil l z n = frm a l z n := by
  unfold Go.Proofs.Ytamgnpmkmlhadaa.fil frm
  rw [h.filter]
theorem filter_snoc {l : List Ms} {i : Nat} (hi : i < l.length) (z : Int) : (l.take (i + 1)).filter (fun m => decide (z < m.q)) = (l.take i).filter (fun m => decide (z < m.q)) ++ (if z < l[i].q then [l[i]] else []) := by
  rw [List.take_succ_eq_append_getElem hi, List.filter_append]
  congr 1
  by_cases h : z < l[i].q
  · rw [if_pos h, List.filter_cons_of_pos (by simpa using h)]
    rfl
  · rw [if_neg h, List.filter_cons_of_neg (by simpa using h)]
    rfl
theorem fil_full {l : List Ms} {i : Nat} {z n : Int} (h : n ≤ ((l.take i).filter (fun m => decide (z < m.q))).length) (h2 : (((l.take i).filter (fun m => decide (z < m.q))).length : Int) ≤ max n 0) : (l.take i).filter (fun m => decide (z < m.q)) = fil l z n := by
  have e : l.filter (fun m => decide (z < m.q)) = (l.take i).filter (fun m => decide (z < m.q)) ++ (l.drop i).filter (fun m => decide (z < m.q)) := by rw [← List.filter_append, List.take_append_drop]
  unfold fil
  rw [e, List.take_append_of_le_length (by omega)]
  exact (List.take_of_length_le (by omega)).symm
theorem fil_end {l : List Ms} {z n : Int} (h2 : ((l.filter (fun m => decide (z < m.q))).length : Int) ≤ max n 0) : l.filter (fun m => decide (z < m.q)) = fil l z n := by
  unfold fil
  rw [List.take_of_length_le (by omega)]

end Go.Proofs.Ytamgnpmkmlhadaa
