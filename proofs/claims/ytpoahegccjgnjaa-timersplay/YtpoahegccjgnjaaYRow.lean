/- Rows of pairs, as the document keeps timers: read, made, appended, cut. Conditions: those that each theorem states. -/
import Derived.Test.YtpoahegccjgnjaaYLaw
namespace Go.Proofs.Ytpoahegccjgnjaa
open Go Go.RowKit
set_option linter.unusedVariables false
def qcells (p : Int × Int) : List Value := [.int .i64 p.2, .int .i64 p.1]
theorem addr_plainQ (b o q : Nat) : (⟨b, o, none⟩ : Addr).add q = ⟨b, o + q, none⟩ := by unfold Addr.add; split <;> simp_all
def Rq (B : Nat) (w : World) (v : Value) (l : List (Int × Int)) : Prop :=
  ∃ a c, v = .slice a l.length c ∧ l.length ≤ c ∧ c ≤ maxLen ∧ ∀ i (h : i < l.length), ∃ b off, a = some ⟨b, off, none⟩ ∧ b < B ∧
    w.cell? ⟨b, off + i * 2, none⟩ = some (.int .i64 l[i].2) ∧ w.cell? ⟨b, off + i * 2 + 1, none⟩ = some (.int .i64 l[i].1)
theorem Rq.nil (B : Nat) (w : World) : Rq B w (.slice none 0 0) [] := ⟨none, 0, rfl, Nat.le_refl _, Nat.zero_le _, fun i h => absurd h (by simp)⟩
def qcs (l : List (Int × Int)) : List Value := l.flatMap qcells
theorem qcs_len (l : List (Int × Int)) : (qcs l).length = l.length * 2 := by
  induction l with
  | nil => rfl
  | cons x l ih => simp only [qcs, List.flatMap_cons, List.length_append, List.length_cons] at *; rw [ih]; simp [qcells]; omega
theorem qcs_append (l m : List (Int × Int)) : qcs (l ++ m) = qcs l ++ qcs m := by simp [qcs]
theorem qcs_one (l : List (Int × Int)) : ∀ u ∈ qcs l, u.oneCell' = true := by
  intro u hu
  obtain ⟨x, _, h⟩ := List.mem_flatMap.1 hu
  simp only [qcells, List.mem_cons, List.not_mem_nil, or_false] at h
  rcases h with rfl | rfl <;> rfl
theorem qcs_at (l : List (Int × Int)) : ∀ (i j : Nat) (h : i < l.length), j < 2 → (qcs l)[i * 2 + j]? = (qcells l[i])[j]? := by
  induction l with
  | nil => intro i j h; simp at h
  | cons x l ih =>
    intro i j h hj
    have e : qcs (x :: l) = qcells x ++ qcs l := by simp [qcs]
    rw [e]
    rcases i with _ | i
    · rw [List.getElem?_append_left (by simp [qcells]; omega)]
      simp
    · rw [List.getElem?_append_right (by simp [qcells]; omega)]
      have h2 := ih i j (by simpa using h) hj
      have e2 : (i + 1) * 2 + j - (qcells x).length = i * 2 + j := by simp [qcells]; omega
      rw [e2, h2]
      simp
/-- Pairs that a call itself has laid. -/
def OwQ (w : World) (base : Nat) (v : Value) (l : List (Int × Int)) : Prop := w.ownsRow base 42 2 v l.length (qcs l)
theorem OwQ.nil (w : World) (base : Nat) : OwQ w base (.slice none 0 0) [] := World.ownsRow_nil w base 42 2
theorem OwQ.lt {w : World} {base : Nat} {v : Value} {l : List (Int × Int)} (h : OwQ w base v l) : ∀ k, v.ownBlock = some k → base ≤ k ∧ k < w.heap.size := World.ownsRow.lt h
theorem OwQ.kept {w w' : World} {base : Nat} {v : Value} {l : List (Int × Int)} {S : Nat → Prop} (h : OwQ w base v l) (hk : Kp S w w') (hS : ∀ k, v.ownBlock = some k → ¬ S k) : OwQ w' base v l := by
  rcases h.2 with ⟨rfl, h0⟩ | ⟨g, cap, cur, rfl, hb, hg, h1, h2, h3, h4⟩
  · exact ⟨h.1, .inl ⟨rfl, h0⟩⟩
  · have hlt : g < w.heap.size := (Array.getElem?_eq_some_iff.1 hg).1
    exact ⟨h.1, .inr ⟨g, cap, cur, rfl, hb, by rw [hk.block g hlt (hS g rfl)]; exact hg, h1, h2, h3, h4⟩⟩
theorem OwQ.keptN {w w' : World} {base : Nat} {v : Value} {l : List (Int × Int)} (h : OwQ w base v l) (hk : Kp none' w w') : OwQ w' base v l := h.kept hk (fun _ _ h => h)
theorem OwQ.mono {w : World} {base base' : Nat} {v : Value} {l : List (Int × Int)} (h : OwQ w base v l) (hb : base' ≤ base) : OwQ w base' v l := by
  rcases h.2 with ⟨rfl, h0⟩ | ⟨g, cap, cur, rfl, hb', hg, h1, h2, h3, h4⟩
  · exact ⟨h.1, .inl ⟨rfl, h0⟩⟩
  · exact ⟨h.1, .inr ⟨g, cap, cur, rfl, Nat.le_trans hb hb', hg, h1, h2, h3, h4⟩⟩
theorem OwQ.rq {w : World} {base : Nat} {v : Value} {l : List (Int × Int)} (h : OwQ w base v l) : Rq w.heap.size w v l := by
  have h' := h
  rcases h.2 with ⟨rfl, h0⟩ | ⟨g, cap, cur, rfl, hb, hg, hnc, hcm, hcs, htake⟩
  · have : l = [] := List.eq_nil_of_length_eq_zero h0
    subst this
    exact Rq.nil _ w
  · refine ⟨some ⟨g, 0, none⟩, cap, rfl, hnc, hcm, fun i hi => ⟨g, 0, rfl, (Array.getElem?_eq_some_iff.1 hg).1, ?_⟩⟩
    have hc := World.ownsRow.cells h' (g := g) rfl
    have g0 := hc (i * 2 + 0) _ (by rw [qcs_at l i 0 hi (by omega)]; rfl)
    have g1 := hc (i * 2 + 1) _ (by rw [qcs_at l i 1 hi (by omega)]; rfl)
    rw [addr_plainQ] at g0 g1
    exact ⟨g0, g1⟩
/-- Pairs in memory, as what is appended. -/
theorem Rq.src {B : Nat} {w : World} {v : Value} {l : List (Int × Int)} (h : Rq B w v l) : Src Try.prog 2 28 v l.length (qcs l) w := by
  obtain ⟨a, c, rfl, h1, h2, h3⟩ := h
  cases l with
  | nil =>
    cases a with
    | none => exact Src.ofNil w Try.underlying28 c
    | some a => exact Src.ofSlice w Try.underlying28 a 0 c [] (by simp) (by simp) (by simp)
  | cons x l =>
    obtain ⟨b, off, rfl, _, _, _⟩ := h3 0 (by simp)
    refine Src.ofSlice w Try.underlying28 ⟨b, off, none⟩ _ c _ (qcs_len _) (fun j u hu => ?_) (qcs_one _)
    have hj : j < (qcs (x :: l)).length := (List.getElem?_eq_some_iff.1 hu).1
    rw [qcs_len] at hj
    have hi : j / 2 < (x :: l).length := by omega
    have hm : j % 2 < 2 := Nat.mod_lt _ (by omega)
    have ej : j = j / 2 * 2 + j % 2 := by omega
    rw [ej, qcs_at _ _ _ hi hm] at hu
    obtain ⟨b', off', e, _, c0, c1⟩ := h3 (j / 2) hi
    cases e
    rw [addr_plainQ]
    rcases Nat.lt_or_ge (j % 2) 1 with h0 | h0
    · have e0 : j % 2 = 0 := by omega
      rw [e0] at hu ej
      simp only [qcells, List.getElem?_cons_zero, Option.some.injEq] at hu
      rw [← hu, show off + j = off + j / 2 * 2 by omega]
      exact c0
    · have e0 : j % 2 = 1 := by omega
      rw [e0] at hu ej
      simp only [qcells, List.getElem?_cons_succ, List.getElem?_cons_zero, Option.some.injEq] at hu
      rw [← hu, show off + j = off + j / 2 * 2 + 1 by omega]
      exact c1
/-- An append to a row, of elements of any size, that a call itself has laid, also of none to none. -/
theorem app_row (t e ty : TypeId) (z : Value) (sz by_ : Nat) (ht : Try.prog.underlying t = some (.slice e)) (hinfo : (Try.prog.info? e).map (fun i => (i.zero, i.size, i.bytes)) = some (some z, sz, by_)) (hzc : z.cells.size = sz) (hby : by_ ≤ 64)
    (w : World) (base : Nat) (v : Value) (n : Nat) (cs : List Value) (x : Value) (m : Nat) (ds : List Value) (hO : w.ownsRow base e sz v n cs) (hs : Src Try.prog sz t x m ds w) (hb : base ≤ w.heap.size) (hl : n + m ≤ 1000000000) :
    ∃ v' w', (Builtin.append_ #[t, t] ty #[v, x]).run Try.prog w = .ok v' w' ∧ w'.ownsRow base e sz v' (n + m) (cs ++ ds) ∧ w.grownBy w' v.ownBlock ∧ (v'.ownBlock = v.ownBlock ∨ v'.ownBlock = some w.heap.size) := by
  obtain ⟨i0, hi, hz0, hz1, hz2⟩ := info_parts hinfo
  by_cases h0 : 0 < n + m
  · exact run_append_own_row (P := Try.prog) w base t t ty e i0 z sz by_ ht hi hz0 hzc hz1 hz2 v n cs hO x m ds hs h0 (by
      have : (n + m) * by_ ≤ 1000000000 * 64 := Nat.mul_le_mul hl hby
      omega) (by unfold maxLen; omega) hb
  · obtain rfl : n = 0 := by omega
    obtain rfl : m = 0 := by omega
    have hd : ds = [] := List.eq_nil_of_length_eq_zero (by have := hs.newsLen; simpa using this)
    subst hd
    have hs' : Src Try.prog i0.size t x 0 [] w := by rw [hz1]; exact hs
    have hf := hs'.cells
    refine ⟨v, w, ?_, by rw [List.append_nil]; exact hO, ⟨rfl, rfl, rfl, Nat.le_refl _, fun _ _ _ => rfl⟩, .inl rfl⟩
    rcases hO.2 with ⟨rfl, _⟩ | ⟨g, cap, cur, rfl, _⟩
    · simp [Builtin.append_, run_underlying ht, sizeOf, typeInfo, hi, hs'.len, hf]
    · simp [Builtin.append_, run_underlying ht, sizeOf, typeInfo, hi, hs'.len, hf, Addr.add_lit, storeCells]
theorem infoQ : (Try.prog.info? 42).map (fun i => (i.zero, i.size, i.bytes)) = some (some (.agg #[.int .i64 0, .int .i64 0]), 2, 16) := by kernel_rfl
theorem appQ (w : World) (base : Nat) (v x : Value) (l k : List (Int × Int)) (hO : OwQ w base v l) (hs : Src Try.prog 2 28 x k.length (qcs k) w) (hb : base ≤ w.heap.size) (hl : l.length + k.length ≤ 1000000000) :
    ∃ v' w', (Builtin.append_ #[28, 28] 28 #[v, x]).run Try.prog w = .ok v' w' ∧ OwQ w' base v' (l ++ k) ∧ w.grownBy w' v.ownBlock ∧ (v'.ownBlock = v.ownBlock ∨ v'.ownBlock = some w.heap.size) := by
  obtain ⟨v', w', h1, h2, h3, h4⟩ := app_row 28 42 28 _ 2 16 Try.underlying28 infoQ rfl (by omega) w base v _ _ x _ _ hO hs hb hl
  refine ⟨v', w', h1, ?_, h3, h4⟩
  unfold OwQ
  rw [List.length_append, qcs_append]
  exact h2
theorem nwpQ_app_at {P : Program} {w : World} {o : Oper} {a : Act} {K : Act → World → Prop} {Q : Exit → Act → World → Prop} (s x : Operand) (t tx : TypeId)
    (ho : o.op = .call { callee := .builtin .append, args := #[s, x], argTypes := #[t, tx] }) (v xv : Value) (hs : a.eval s = v) (hx : a.eval x = xv) {v' : Value} {w' : World}
    (hr : (Builtin.append_ #[t, tx] o.type #[v, xv]).run P w = .ok v' w') (h : K (a.put o.dst v') w') : o.wp P a w K Q := by
  unfold Oper.wp execOp
  simp only [ho, resolve, invoke, builtin, Sem.run_bind, Sem.run_pure, Result.andThen_ok, List.map_toArray, List.map_cons, List.map_nil, hs, hx, hr]
  exact h
theorem nwpListQ_app_at {P : Program} {w : World} {ops : Array Oper} {rest : List Oper} {o : Oper} {a : Act} {Q : Exit → Act → World → Prop} (hgd : o.guard = none) (s x : Operand) (t tx : TypeId)
    (ho : o.op = .call { callee := .builtin .append, args := #[s, x], argTypes := #[t, tx] }) (v xv : Value) (hs : a.eval s = v) (hx : a.eval x = xv) {v' : Value} {w' : World}
    (hr : (Builtin.append_ #[t, tx] o.type #[v, xv]).run P w = .ok v' w') (h : wpList P ops Q rest (a.put o.dst v') w') : wpList P ops Q (o :: rest) a w :=
  wpList_plain hgd fun _ hK => nwpQ_app_at s x t tx ho v xv hs hx hr (hK _ _ h)
theorem nstepQ_app_at {P : Program} {w : World} {ops : Array Oper} {o : Oper} {a : Act} {K : Act → World → Prop} {Q : Exit → Act → World → Prop} {E : Prop} (hgd : o.guard = none) (s x : Operand) (t tx : TypeId)
    (ho : o.op = .call { callee := .builtin .append, args := #[s, x], argTypes := #[t, tx] }) (v xv : Value) (hs : a.eval s = v) (hx : a.eval x = xv) {v' : Value} {w' : World}
    (hr : (Builtin.append_ #[t, tx] o.type #[v, xv]).run P w = .ok v' w') (h : K (a.put o.dst v') w') : if Region.wanted o (yielded ops a.tmps) = true then Oper.wp P o a w K Q else E := by
  have hw : Region.wanted o (yielded ops a.tmps) = true := by simp [Region.wanted, hgd]
  rw [if_pos hw]
  exact nwpQ_app_at s x t tx ho v xv hs hx hr h
/-- Parts of slices. -/
theorem Rq.take {B : Nat} {w : World} {a : Option Addr} {c : Nat} {l : List (Int × Int)} (h : Rq B w (.slice a l.length c) l) (m : Nat) (hm : m ≤ l.length) : Rq B w (.slice a m c) (l.take m) := by
  obtain ⟨a', c', e, h1, h2, h3⟩ := h
  cases e
  refine ⟨a, c, by rw [List.length_take, Nat.min_eq_left hm], by rw [List.length_take]; omega, h2, fun i hi => ?_⟩
  have hi' : i < m := by rw [List.length_take] at hi; omega
  obtain ⟨b, off, e, hb, c0, c1⟩ := h3 i (by omega)
  exact ⟨b, off, e, hb, by rw [List.getElem_take]; exact c0, by rw [List.getElem_take]; exact c1⟩
theorem Rq.drop {B : Nat} {w : World} {a a' : Option Addr} {c : Nat} {l : List (Int × Int)} (h : Rq B w (.slice a l.length c) l) (m : Nat) (hm : m ≤ l.length) (ha : ∀ b off, m < l.length → a = some ⟨b, off, none⟩ → a' = some ⟨b, off + m * 2, none⟩) : Rq B w (.slice a' (l.length - m) (c - m)) (l.drop m) := by
  obtain ⟨a0, c', e, h1, h2, h3⟩ := h
  cases e
  refine ⟨a', c - m, by rw [List.length_drop], by rw [List.length_drop]; omega, by omega, fun i hi => ?_⟩
  have hi' : m + i < l.length := by rw [List.length_drop] at hi; omega
  obtain ⟨b, off, e, hb, c0, c1⟩ := h3 (m + i) hi'
  refine ⟨b, off + m * 2, ha b off (by omega) e, hb, ?_, ?_⟩
  · rw [List.getElem_drop, show off + m * 2 + i * 2 = off + (m + i) * 2 by omega]; exact c0
  · rw [List.getElem_drop, show off + m * 2 + i * 2 + 1 = off + (m + i) * 2 + 1 by omega]; exact c1
theorem src_two {P : Program} (w : World) (t e : TypeId) (ht : P.underlying t = some (.slice e)) (x y : Value) (hx : x.oneCell' = true) (hy : y.oneCell' = true) (g : Nat) (hg : w.heap.size = g) : Src P 2 t (.slice (some ⟨g, 0, none⟩) 1 1) 1 [x, y] (w.alloc (.cells #[x, y] e)) := by
  subst hg
  refine Src.ofSlice (e' := e) _ ht ⟨w.heap.size, 0, none⟩ 1 1 [x, y] (by simp) ?_ (by intro u hu; simp at hu; rcases hu with rfl | rfl <;> assumption)
  intro j u hj
  match j, hj with
  | 0, hj => simp at hj; subst hj; simp [Addr.add]
  | 1, hj => simp at hj; subst hj; simp [Addr.add]
  | (j + 2), hj => simp at hj

theorem Rq.dropM {B : Nat} {w : World} {a : Option Addr} {c : Nat} {l : List (Int × Int)} (h : Rq B w (.slice a l.length c) l) (m : Nat) (hm : m ≤ l.length) : Rq B w (.slice (a.map (fun x => x.add (m * 2))) (l.length - m) (c - m)) (l.drop m) :=
  h.drop m hm (fun b off _ e => by rw [e]; simp [addr_plainQ])
theorem Rq.drop0 {B : Nat} {w : World} {a : Option Addr} {c : Nat} {l : List (Int × Int)} (h : Rq B w (.slice a l.length c) l) (m : Nat) (hm : m ≤ l.length) (hc : c = m) : Rq B w (.slice a 0 0) (l.drop m) := by
  have hl : l.length ≤ c := by obtain ⟨_, _, e, h1, _⟩ := h; cases e; exact h1
  have := h.drop (a' := a) m hm (fun b off hlt e => absurd hlt (by omega))
  rwa [show c - m = 0 by omega, show l.length - m = 0 by omega] at this

end Go.Proofs.Ytpoahegccjgnjaa
