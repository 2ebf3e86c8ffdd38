/- Contracts, over the turned program: the document's cache (factotumref07). Conditions: those that each theorem states. -/
import Derived.Test.YtcfhgfelmofgjaaCFill
import Derived.Deep.RegionLaw
import Derived.BigRegion
namespace Go.Proofs.Ytcfhgfelmofgjaa
open Go.RowKit
set_option linter.unusedVariables false

/-- An append to numbers that a call itself has laid, also of none to none. -/
theorem app_ints (w : World) (base : Nat) (v : Value) (l : List Int) (x : Value) (k : List Int) (hO : Ow (Value.int .i64) 3 w base v l) (hs : Src Try.prog 1 35 x k.length (k.map (Value.int .i64)) w) (hb : base ≤ w.heap.size) (hl : l.length + k.length ≤ 1000) :
    ∃ v' w', (Builtin.append_ #[35, 35] 35 #[v, x]).run Try.prog w = .ok v' w' ∧ Ow (Value.int .i64) 3 w' base v' (l ++ k) ∧ w.grownBy w' v.ownBlock ∧ (v'.ownBlock = v.ownBlock ∨ v'.ownBlock = some w.heap.size) := by
  obtain ⟨i0, hi, hz0, hz1, hz2⟩ := info_parts infoI
  by_cases h0 : 0 < l.length + k.length
  · obtain ⟨v', w', h1, h2, h3, h4⟩ := run_append_own_row (P := Try.prog) w base 35 35 35 3 i0 _ 1 8 Try.underlying35 hi hz0 (by rfl) hz1 hz2 v l.length (l.map (Value.int .i64)) hO x k.length (k.map (Value.int .i64)) hs h0 (by omega) (by unfold maxLen; omega) hb
    refine ⟨v', w', h1, ?_, h3, h4⟩
    unfold Ow
    rw [List.length_append, List.map_append]
    exact h2
  · have hl0 : l = [] := List.eq_nil_of_length_eq_zero (by omega)
    have hk0 : k = [] := List.eq_nil_of_length_eq_zero (by omega)
    subst hl0 hk0
    have hs' : Src Try.prog i0.size 35 x 0 [] w := by rw [hz1]; exact hs
    have hf := hs'.cells
    refine ⟨v, w, ?_, hO, ⟨rfl, rfl, rfl, Nat.le_refl _, fun _ _ _ => rfl⟩, .inl rfl⟩
    rcases hO.2 with ⟨rfl, _⟩ | ⟨g, cap, cur, rfl, _⟩
    · simp [Builtin.append_, run_underlying Try.underlying35, sizeOf, typeInfo, hi, hs'.len, hf]
    · simp [Builtin.append_, run_underlying Try.underlying35, sizeOf, typeInfo, hi, hs'.len, hf, Addr.add_lit, storeCells]
theorem wp_app_at {P : Program} {w : World} {o : Oper} {a : Act} {K : Act → World → Prop} {Q : Exit → Act → World → Prop} (s x : Operand) (t tx : TypeId)
    (ho : o.op = .call { callee := .builtin .append, args := #[s, x], argTypes := #[t, tx] }) (v xv : Value) (hs : a.eval s = v) (hx : a.eval x = xv) {v' : Value} {w' : World}
    (hr : (Builtin.append_ #[t, tx] o.type #[v, xv]).run P w = .ok v' w') (h : K (a.put o.dst v') w') : o.wp P a w K Q := by
  unfold Oper.wp execOp
  simp only [ho, resolve, invoke, builtin, Sem.run_bind, Sem.run_pure, Result.andThen_ok, List.map_toArray, List.map_cons, List.map_nil, hs, hx, hr]
  exact h
theorem wpList_app_at {P : Program} {w : World} {ops : Array Oper} {rest : List Oper} {o : Oper} {a : Act} {Q : Exit → Act → World → Prop} (hgd : o.guard = none) (s x : Operand) (t tx : TypeId)
    (ho : o.op = .call { callee := .builtin .append, args := #[s, x], argTypes := #[t, tx] }) (v xv : Value) (hs : a.eval s = v) (hx : a.eval x = xv) {v' : Value} {w' : World}
    (hr : (Builtin.append_ #[t, tx] o.type #[v, xv]).run P w = .ok v' w') (h : wpList P ops Q rest (a.put o.dst v') w') : wpList P ops Q (o :: rest) a w :=
  wpList_plain hgd fun _ hK => wp_app_at s x t tx ho v xv hs hx hr (hK _ _ h)
theorem pstep_app_at {P : Program} {w : World} {ops : Array Oper} {o : Oper} {a : Act} {K : Act → World → Prop} {Q : Exit → Act → World → Prop} {E : Prop} (hgd : o.guard = none) (s x : Operand) (t tx : TypeId)
    (ho : o.op = .call { callee := .builtin .append, args := #[s, x], argTypes := #[t, tx] }) (v xv : Value) (hs : a.eval s = v) (hx : a.eval x = xv) {v' : Value} {w' : World}
    (hr : (Builtin.append_ #[t, tx] o.type #[v, xv]).run P w = .ok v' w') (h : K (a.put o.dst v') w') : if Region.wanted o (yielded ops a.tmps) = true then Oper.wp P o a w K Q else E := by
  have hw : Region.wanted o (yielded ops a.tmps) = true := by simp [Region.wanted, hgd]
  rw [if_pos hw]
  exact wp_app_at s x t tx ho v xv hs hx hr h
/-- A slice of numbers that lies in blocks of G. -/
def Kps (G : Nat → Prop) (w : World) (v : Value) (l : List Int) : Prop :=
  ∃ a c, v = .slice a l.length c ∧ l.length ≤ c ∧ c ≤ maxLen ∧ ∀ i (h : i < l.length), ∃ b off, a = some ⟨b, off, none⟩ ∧ G b ∧ b < w.heap.size ∧ w.cell? ⟨b, off + i, none⟩ = some (.int .i64 l[i])
theorem Kps.kept {G S : Nat → Prop} {w w' : World} {v : Value} {l : List Int} (h : Kps G w v l) (hk : Kp S w w') (hS : ∀ k, G k → ¬ S k) : Kps G w' v l := by
  obtain ⟨a, c, rfl, h1, h2, h3⟩ := h
  refine ⟨a, c, rfl, h1, h2, fun i hi => ?_⟩
  obtain ⟨b, off, rfl, hb, hl, hc⟩ := h3 i hi
  exact ⟨b, off, rfl, hb, Nat.lt_of_lt_of_le hl hk.size, hk.cell hc (hS b hb)⟩
theorem Kps.mono {G G' : Nat → Prop} {w : World} {v : Value} {l : List Int} (h : Kps G w v l) (hG : ∀ k, k < w.heap.size → G k → G' k) : Kps G' w v l := by
  obtain ⟨a, c, rfl, h1, h2, h3⟩ := h
  refine ⟨a, c, rfl, h1, h2, fun i hi => ?_⟩
  obtain ⟨b, off, rfl, hb, hl, hc⟩ := h3 i hi
  exact ⟨b, off, rfl, hG b hl hb, hl, hc⟩
theorem Kps.sl {G : Nat → Prop} {w : World} {v : Value} {l : List Int} (h : Kps G w v l) : Sl (Value.int .i64) w.heap.size w v l := by
  obtain ⟨a, c, rfl, h1, h2, h3⟩ := h
  refine ⟨a, c, rfl, h1, h2, fun i hi => ?_⟩
  obtain ⟨b, off, rfl, hb, hl, hc⟩ := h3 i hi
  exact ⟨b, off, rfl, hl, hc⟩
theorem Kps.src {G : Nat → Prop} {w : World} {v : Value} {l : List Int} (h : Kps G w v l) : Src Try.prog 1 35 v l.length (l.map (Value.int .i64)) w := by
  obtain ⟨a, c, rfl, h1, h2, h3⟩ := h
  cases l with
  | nil =>
    cases a with
    | none => exact Src.ofNil w Try.underlying35 c
    | some a => exact Src.ofSlice w Try.underlying35 a 0 c [] (by simp) (by simp) (by simp)
  | cons x l =>
    obtain ⟨b, off, rfl, _, _, _⟩ := h3 0 (by simp)
    refine Src.ofSlice w Try.underlying35 ⟨b, off, none⟩ _ c _ (by simp) (fun j u hu => ?_) (fun u hu => ?_)
    · rw [List.getElem?_map] at hu
      have hj : j < (x :: l).length := by
        cases hlt : (x :: l)[j]? with
        | none => rw [hlt] at hu; cases hu
        | some y => exact (List.getElem?_eq_some_iff.1 hlt).1
      obtain ⟨b', off', he, _, _, hc⟩ := h3 j hj
      cases he
      rw [List.getElem?_eq_getElem hj] at hu
      have plain : (⟨b, off, none⟩ : Addr).add j = ⟨b, off + j, none⟩ := by unfold Addr.add; split <;> simp_all
      rw [plain, hc]
      exact hu
    · obtain ⟨y, _, rfl⟩ := List.mem_map.1 hu
      rfl
theorem Kps.take {G : Nat → Prop} {w : World} {a : Option Addr} {n c : Nat} {l : List Int} (h : Kps G w (.slice a n c) l) (k : Nat) (hk : k ≤ l.length) : Kps G w (.slice a k c) (l.take k) := by
  obtain ⟨a', c', h0, h1, h2, h3⟩ := h
  cases h0
  have e : (l.take k).length = k := by rw [List.length_take]; omega
  refine ⟨a, c, by rw [e], by rw [e]; omega, h2, fun i hi => ?_⟩
  rw [e] at hi
  obtain ⟨b, off, ha, hb, hl, hc⟩ := h3 i (by omega)
  have e2 : (l.take k)[i]'(by rw [e]; exact hi) = l[i]'(by omega) := List.getElem_take
  exact ⟨b, off, ha, hb, hl, by rw [e2]; exact hc⟩
theorem Kps.drop {G : Nat → Prop} {w : World} {b off n c : Nat} {l : List Int} (h : Kps G w (.slice (some ⟨b, off, none⟩) n c) l) (k : Nat) (hk : k ≤ l.length) (a' : Option Addr) (ha : k < l.length → a' = some ⟨b, off + k, none⟩) : Kps G w (.slice a' (l.length - k) (c - k)) (l.drop k) := by
  obtain ⟨a0, c0, h0, h1, h2, h3⟩ := h
  cases h0
  have e : (l.drop k).length = l.length - k := by rw [List.length_drop]
  refine ⟨a', c - k, by rw [e], by rw [e]; omega, by omega, fun i hi => ?_⟩
  rw [e] at hi
  obtain ⟨b', off', he, hb, hl, hc⟩ := h3 (k + i) (by omega)
  cases he
  have e2 : (l.drop k)[i]'(by rw [e]; exact hi) = l[k + i]'(by omega) := List.getElem_drop ..
  exact ⟨b, off + k, ha (by omega), hb, hl, by rw [e2, show off + k + i = off + (k + i) by omega]; exact hc⟩
theorem Ow.kps {w : World} {base : Nat} {v : Value} {l : List Int} (h : Ow (Value.int .i64) 3 w base v l) : Kps (fun k => base ≤ k) w v l := by
  have h' := h
  obtain ⟨a, c, rfl, hc⟩ := h.open
  obtain ⟨a', c', he, h1, h2, h3⟩ := h'.sl
  cases he
  refine ⟨a, c, rfl, h1, h2, fun i hi => ?_⟩
  obtain ⟨g, rfl, hb, hcell⟩ := hc i hi
  exact ⟨g, 0, rfl, hb, lt_of_cell hcell, by rw [Nat.zero_add]; exact hcell⟩
/-- The document's cache in memory. -/
structure Rf (w : World) (r : Nat) (G : Nat → Prop) (sz : Nat) (s : St) : Prop where
  c0 : w.cell? ⟨r, 0, none⟩ = some (.int .i64 (sz : Int))
  c1 : ∃ a c, w.cell? ⟨r, 1, none⟩ = some (.slice a s.K.length c) ∧ Kps (fun k => G k ∧ k ≠ r) w (.slice a s.K.length c) s.K
  c2 : w.cell? ⟨r, 2, none⟩ = some (.int .i64 (s.h : Int))
  c3 : w.cell? ⟨r, 3, none⟩ = some (.int .i64 (s.m : Int))
  fr : ∀ j, w.frozen? ⟨r, j, none⟩ = false
theorem Rf.lt {w : World} {r : Nat} {G : Nat → Prop} {sz : Nat} {s : St} (h : Rf w r G sz s) : r < w.heap.size := lt_of_cell h.c0
theorem Rf.kept {w w' : World} {r : Nat} {G S : Nat → Prop} {sz : Nat} {s : St} (h : Rf w r G sz s) (hk : Kp S w w') (hr : ¬ S r) (hS : ∀ k, G k → ¬ S k) : Rf w' r G sz s := by
  obtain ⟨a, c, h1, h2⟩ := h.c1
  exact ⟨hk.cell h.c0 hr, ⟨a, c, hk.cell h1 hr, h2.kept hk (fun k hk => hS k hk.1)⟩, hk.cell h.c2 hr, hk.cell h.c3 hr, fun j => by rw [hk.frozen h.lt hr]; exact h.fr j⟩
theorem Rf.mono {w : World} {r : Nat} {G G' : Nat → Prop} {sz : Nat} {s : St} (h : Rf w r G sz s) (hG : ∀ k, k < w.heap.size → G k → G' k) : Rf w r G' sz s := by
  obtain ⟨a, c, h1, h2⟩ := h.c1
  exact ⟨h.c0, ⟨a, c, h1, h2.mono (fun k hl hk => ⟨hG k hl hk.1, hk.2⟩)⟩, h.c2, h.c3, h.fr⟩
/-- Where a page stands among those that are kept, as far as i of them were looked at. -/
def At (K : List Int) (z : Int) (i : Nat) (t : Int) : Prop := (z ∉ K.take i ∧ t = -1) ∨ ∃ p q, K = p ++ z :: q ∧ p.length < i ∧ t = (p.length : Int)
theorem At.step {K : List Int} {z : Int} {i : Nat} {t : Int} (hn : K.Nodup) (hi : i < K.length) (h : At K z i t) : (K[i] = z → At K z (i + 1) (i : Int)) ∧ (K[i] ≠ z → At K z (i + 1) t) := by
  have e : K = K.take i ++ K[i] :: K.drop (i + 1) := by rw [← List.drop_eq_getElem_cons hi, List.take_append_drop]
  have hl : (K.take i).length = i := by rw [List.length_take]; omega
  constructor
  · intro hz
    exact .inr ⟨K.take i, K.drop (i + 1), by rw [← hz]; exact e, by omega, by rw [hl]⟩
  · intro hz
    rcases h with ⟨h1, h2⟩ | ⟨p, q, h1, h2, h3⟩
    · refine .inl ⟨?_, h2⟩
      rw [List.take_succ_eq_append_getElem hi, List.mem_append]
      rintro (h | h)
      · exact h1 h
      · exact hz (List.mem_singleton.1 h).symm
    · exact .inr ⟨p, q, h1, by omega, h3⟩
end Go.Proofs.Ytcfhgfelmofgjaa
